/- What is proved here: directory.Apply by a contract; what DirectoryOwners and DirectoryHomes hold while a change is drawn and applied; (plain) who owns a route behind a change; which slots have a home. -/
import Derived.Test.YtdilgeabcacbdaaJ10
import Derived.Test.YtdilgeabcacbdaaJ11
import Derived.Test.YtdilgeabcacbdaaJ08
import Derived.Test.YtdilgeabcacbdaaJ07
import Derived.Test.YtdilgeabcacbdaaJ09
namespace Go.Proofs.Ytdilgeabcacbdaa
open Go.RowKit
set_option linter.unusedVariables false

/-- The boxes of Apply: a directory, a change, a result. -/
structure Ab (w : World) (p q r : Nat) (d : Dd) (X : Dx) (e : Ed) (W : World) : Prop where
  da : DAt w p d X W
  eb : EB W q e
  rb : DB W r zD zDx
  ne : w.heap.size ≤ p ∧ p < q ∧ q < r
  of : ∀ z, w.heap.size ≤ z → DOff d X z
section
variable {w W W' : World} {p q r : Nat} {d : Dd} {X : Dx} {e : Ed}
theorem Ab.below (h : Ab w p q r d X e W) (hb : Below W.heap.size W W') : Ab w p q r d X e W' := ⟨h.da.below hb, h.eb.up hb, h.rb.up hb, h.ne, h.of⟩
theorem Ab.start (d : Dd) (X : Dx) (e : Ed) (hd : DR w w.heap.size d X) : Ab w w.heap.size (w.heap.size + 1) (w.heap.size + 1 + 1) d X e (((w.alloc (.cells #[.int .i64 d.vn, .slice X.A d.l.length X.c, .slice X.A2 d.F.length X.c2] 47)).alloc (.cells #[.int .i64 e.kd, .int .i64 e.fr, .int .i64 e.to, .int .i64 e.md] 49)).alloc (.cells #[.int .i64 0, .slice none 0 0, .slice none 0 0] 47)) := by
  have e1 : (w.alloc (.cells #[.int .i64 d.vn, .slice X.A d.l.length X.c, .slice X.A2 d.F.length X.c2] 47)).heap.size = w.heap.size + 1 := by simp
  have e2 : ((w.alloc (.cells #[.int .i64 d.vn, .slice X.A d.l.length X.c, .slice X.A2 d.F.length X.c2] 47)).alloc (.cells #[.int .i64 e.kd, .int .i64 e.fr, .int .i64 e.to, .int .i64 e.md] 49)).heap.size = w.heap.size + 1 + 1 := by simp
  have h1 := (EB.start (w.alloc (.cells #[.int .i64 d.vn, .slice X.A d.l.length X.c, .slice X.A2 d.F.length X.c2] 47)) e 49).alloc (.cells #[.int .i64 0, .slice none 0 0, .slice none 0 0] 47)
  have h2 := DB.zero ((w.alloc (.cells #[.int .i64 d.vn, .slice X.A d.l.length X.c, .slice X.A2 d.F.length X.c2] 47)).alloc (.cells #[.int .i64 e.kd, .int .i64 e.fr, .int .i64 e.to, .int .i64 e.md] 49)) 47
  rw [e1] at h1
  rw [e2] at h2
  exact ⟨((DAt.start _ hd).alloc _).alloc _, h1, h2, ⟨Nat.le_refl _, by omega, by omega⟩, fun z hz => hd.offs hz⟩
theorem Ab.out0 (h : Ab w p q r d X e W) (x : Int) : DE w.heap.size w zD x (.returned (.tuple #[.agg #[.int .i64 0, .slice none 0 0, .slice none 0 0], .int .i64 x])) (((W.setCell ⟨r, 0, none⟩ (.int .i64 0)).setCell ⟨r, 1, none⟩ (.slice none 0 0)).setCell ⟨r, 2, none⟩ (.slice none 0 0)) := by
  have hp := h.ne
  have hb := h.da.bel
  exact ⟨zDx, rfl, zDx_nw _, DR.zero, ((hb.setCell (p := ⟨r, 0, none⟩) (show w.heap.size ≤ r by omega) _).setCell (p := ⟨r, 1, none⟩) (show w.heap.size ≤ r by omega) _).setCell (p := ⟨r, 2, none⟩) (show w.heap.size ≤ r by omega) _⟩
/-- A result that a call gave, stored into the result box. -/
theorem Ab.out (h : Ab w p q r d X e W) {B : Nat} {D : Dd} {Y : Dx} (hn : Y.nw B) (hB : r < B) (hr : DR W W.heap.size D Y) (x : Int) : DE w.heap.size w D x (.returned (.tuple #[dv D Y, .int .i64 x])) (((W.setCell ⟨r, 0, none⟩ (.int .i64 D.vn)).setCell ⟨r, 1, none⟩ (.slice Y.A D.l.length Y.c)).setCell ⟨r, 2, none⟩ (.slice Y.A2 D.F.length Y.c2)) := by
  have hp := h.ne
  have hb := h.da.bel
  have f : ∀ o, DOff D Y (⟨r, o, none⟩ : Addr).block := fun o => hn.off hB
  exact ⟨Y, rfl, hn.low (by omega), (((hr.offp (q := ⟨r, 0, none⟩) (f 0) _).offp (q := ⟨r, 1, none⟩) (f 1) _).offp (q := ⟨r, 2, none⟩) (f 2) _).more (by simp), ((hb.setCell (p := ⟨r, 0, none⟩) (show w.heap.size ≤ r by omega) _).setCell (p := ⟨r, 1, none⟩) (show w.heap.size ≤ r by omega) _).setCell (p := ⟨r, 2, none⟩) (show w.heap.size ≤ r by omega) _⟩
end
/-- .. with what the copies have given, and the box of the next directory. -/
structure Nx (w : World) (p q r : Nat) (d : Dd) (X : Dx) (e : Ed) (oL oF : Option Value) (oX : Option Nat) (W : World) : Prop where
  ab : Ab w p q r d X e W
  fl : ∀ v, oL = some v → W.ownsRow (r + 1) 63 3 v d.l.length (scs d.l)
  ff : ∀ v, oF = some v → W.ownsRow (r + 1) 3 1 v d.F.length (ics d.F)
  fx : ∀ x, oX = some x → DB W x zD zDx ∧ r < x
  d1 : ∀ u v, oL = some u → oF = some v → ∀ k, u.ownBlock = some k → v.ownBlock ≠ some k
  d2 : ∀ u x, oL = some u → oX = some x → ∀ k, u.ownBlock = some k → k ≠ x
  d3 : ∀ u x, oF = some u → oX = some x → ∀ k, u.ownBlock = some k → k ≠ x
section
variable {w W W' : World} {p q r : Nat} {d : Dd} {X : Dx} {e : Ed} {a b : Option Value} {c : Option Nat}
theorem Nx.below (h : Nx w p q r d X e a b c W) (hb : Below W.heap.size W W') : Nx w p q r d X e a b c W' :=
  ⟨h.ab.below hb, fun v ev => own_up (h.fl v ev) hb, fun v ev => own_up (h.ff v ev) hb, fun x ex => ⟨(h.fx x ex).1.up hb, (h.fx x ex).2⟩, h.d1, h.d2, h.d3⟩
theorem Nx.drew (h : Nx w p q r d X e a b c W) : Nx w p q r d X e a b c W.drew := h.below (Below.refl _ _).drew
theorem Nx.start (h : Ab w p q r d X e W) : Nx w p q r d X e none none none W := ⟨h, by simp, by simp, by simp, by simp, by simp, by simp⟩
theorem Nx.ax (h : Nx w p q r d X e a b none W) (t : TypeId) : Nx w p q r d X e a b (some W.heap.size) (W.alloc (.cells #[.int .i64 0, .slice none 0 0, .slice none 0 0] t)) := by
  have k := h.below ((Below.refl _ _).alloc (Nat.le_refl _) (.cells #[.int .i64 0, .slice none 0 0, .slice none 0 0] t))
  refine ⟨k.ab, k.fl, k.ff, fun x ex => ?_, k.d1, fun u x eu ex j hj => ?_, fun u x eu ex j hj => ?_⟩
  · injection ex with ex; subst ex
    exact ⟨DB.zero W t, h.ab.rb.lt⟩
  · injection ex with ex; subst ex
    have := ((h.fl u eu).lt j hj).2; omega
  · injection ex with ex; subst ex
    have := ((h.ff u eu).lt j hj).2; omega
theorem Nx.cl (h : Nx w p q r d X e none b c W) {v : Value} (ho : W'.ownsRow W.heap.size 63 3 v d.l.length (scs d.l)) (hb : Below W.heap.size W W') : Nx w p q r d X e (some v) b c W' := by
  have k := h.below hb
  refine ⟨k.ab, fun u eu => ?_, k.ff, k.fx, fun u x eu ex j hj => ?_, fun u x eu ex j hj => ?_, k.d3⟩
  · injection eu with eu; subst eu
    exact own_low ho h.ab.rb.lt
  · injection eu with eu; subst eu
    intro e2
    have h1 := ((h.ff x ex).lt j e2).2
    have h2 := (ho.lt j hj).1
    omega
  · injection eu with eu; subst eu
    have h1 := (h.fx x ex).1.lt
    have h2 := (ho.lt j hj).1
    omega
theorem Nx.cf (h : Nx w p q r d X e a none c W) {v : Value} (ho : W'.ownsRow W.heap.size 3 1 v d.F.length (ics d.F)) (hb : Below W.heap.size W W') : Nx w p q r d X e a (some v) c W' := by
  have k := h.below hb
  refine ⟨k.ab, k.fl, fun u eu => ?_, k.fx, fun u x eu ex j hj => ?_, k.d2, fun u x eu ex j hj => ?_⟩
  · injection eu with eu; subst eu
    exact own_low ho h.ab.rb.lt
  · injection ex with ex; subst ex
    intro e2
    have h1 := ((h.fl u eu).lt j hj).2
    have h2 := (ho.lt j e2).1
    omega
  · injection eu with eu; subst eu
    have h1 := (h.fx x ex).1.lt
    have h2 := (ho.lt j hj).1
    omega
theorem Nx.xf {x : Nat} (h : Nx w p q r d X e a b (some x) W) : DB W x zD zDx ∧ r < x := h.fx x rfl
end
/-- .. all of them. -/
structure Ny (w : World) (p q r x : Nat) (d : Dd) (X : Dx) (e : Ed) (Y : Dx) (W : World) : Prop where
  ab : Ab w p q r d X e W
  xb : DB W x ⟨d.vn + 1, d.l, d.F⟩ Y
  fl : W.ownsRow (r + 1) 63 3 (.slice Y.A d.l.length Y.c) d.l.length (scs d.l)
  ff : W.ownsRow (r + 1) 3 1 (.slice Y.A2 d.F.length Y.c2) d.F.length (ics d.F)
  d1 : ∀ k, (Value.slice Y.A d.l.length Y.c).ownBlock = some k → (Value.slice Y.A2 d.F.length Y.c2).ownBlock ≠ some k
section
variable {w W W' : World} {p q r : Nat} {d : Dd} {X : Dx} {e : Ed} {A A2 : Option Addr} {c c2 : Nat}
theorem ny_1 (h : Nx w p q r d X e (some (.slice A d.l.length c)) (some (.slice A2 d.F.length c2)) none W) (t : TypeId) : Ny w p q r W.heap.size d X e ⟨A, c, A2, c2⟩ (W.alloc (.cells #[.int .i64 (d.vn + 1), .slice A d.l.length c, .slice A2 d.F.length c2] t)) := by
  have k := h.below ((Below.refl _ _).alloc (Nat.le_refl _) (.cells #[.int .i64 (d.vn + 1), .slice A d.l.length c, .slice A2 d.F.length c2] t))
  exact ⟨k.ab, DB.start W ⟨d.vn + 1, d.l, d.F⟩ ⟨A, c, A2, c2⟩ t, k.fl _ rfl, k.ff _ rfl, h.d1 _ _ rfl rfl⟩
theorem ny_2 {x : Nat} (h : Nx w p q r d X e (some (.slice A d.l.length c)) (some (.slice A2 d.F.length c2)) (some x) W) : Ny w p q r x d X e ⟨A, c, A2, c2⟩ (((W.setCell ⟨x, 0, none⟩ (.int .i64 (d.vn + 1))).setCell ⟨x, 1, none⟩ (.slice A d.l.length c)).setCell ⟨x, 2, none⟩ (.slice A2 d.F.length c2)) := by
  obtain ⟨h1, h2⟩ := h.xf
  have hn := h.ab.ne
  have o1 : ∀ (j : Nat) (v : Value) (W : World), Ab w p q r d X e W → DOff d X x → Ab w p q r d X e (W.setCell ⟨x, j, none⟩ v) := fun j v W k ho =>
    ⟨k.da.other (a := ⟨x, j, none⟩) (show x ≠ p by omega) ho (show w.heap.size ≤ x by omega) v, k.eb.other (a := ⟨x, j, none⟩) (show x ≠ q by omega) v, k.rb.other (a := ⟨x, j, none⟩) (show x ≠ r by omega) v, k.ne, k.of⟩
  have ho := h.ab.of x (by omega)
  have f1 : ∀ j k, (Value.slice A d.l.length c).ownBlock = some k → k ≠ (⟨x, j, none⟩ : Addr).block := fun j k hk => h.d2 _ _ rfl rfl k hk
  have f2 : ∀ j k, (Value.slice A2 d.F.length c2).ownBlock = some k → k ≠ (⟨x, j, none⟩ : Addr).block := fun j k hk => h.d3 _ _ rfl rfl k hk
  exact ⟨o1 2 _ _ (o1 1 _ _ (o1 0 _ _ h.ab ho) ho) ho, h1.set ⟨d.vn + 1, d.l, d.F⟩ ⟨A, c, A2, c2⟩, own_oth (own_oth (own_oth (h.fl _ rfl) (f1 0) _) (f1 1) _) (f1 2) _, own_oth (own_oth (own_oth (h.ff _ rfl) (f2 0) _) (f2 1) _) (f2 2) _, h.d1 _ _ rfl rfl⟩
end
theorem Ab.k3 {w W W' : World} {p q r : Nat} {d : Dd} {X : Dx} {e : Ed} (h : Ab w p q r d X e W) (hb : Below (p + 1) W W') : K3 p d X W' :=
  ⟨(hb.cell (p := ⟨p, 0, none⟩) (Nat.lt_succ_self p)).trans h.da.db.c0, (hb.cell (p := ⟨p, 1, none⟩) (Nat.lt_succ_self p)).trans h.da.db.c1, (hb.cell (p := ⟨p, 2, none⟩) (Nat.lt_succ_self p)).trans h.da.db.c2⟩
/-- The numbers of a valid directory's spans. -/
theorem ok_lo {d : Dd} (h : OkD d) : ∀ k, k < d.l.length → 0 ≤ (sg d.l k).lo
  | 0, hk => by have a := (h.sp 0 hk).1; rw [nxD_zero] at a; omega
  | k + 1, hk => by
    have a := (h.sp (k + 1) hk).1
    have b := (h.sp k (by omega)).2.1
    have c := ok_lo h k (by omega)
    rw [nxD_succ] at a
    omega
theorem ok_rng {d : Dd} (h : OkD d) {k : Nat} (hk : k < d.l.length) : 0 ≤ (sg d.l k).lo ∧ (sg d.l k).lo ≤ (sg d.l k).hi ∧ (sg d.l k).hi ≤ 65535 := ⟨ok_lo h k hk, (h.sp k hk).2⟩
theorem Ab.fin {w W W' : World} {p q r : Nat} {d : Dd} {X : Dx} {e : Ed} (h : Ab w p q r d X e W) (hb : Below (r + 1) W W') : DB W' r zD zDx ∧ Below w.heap.size w W' :=
  ⟨h.rb.keep (fun o => hb.cell (p := ⟨r, o, none⟩) (Nat.lt_succ_self r)) (fun o => hb.frozen (p := ⟨r, o, none⟩) (Nat.lt_succ_self r)) hb.size, h.da.bel.trans (hb.mono (by have := h.ne; omega))⟩
theorem fin_out {w W : World} {r B : Nat} {D : Dd} {Y : Dx} (hr0 : r = w.heap.size + 1 + 1) (hbel : Below w.heap.size w W) (hn : Y.nw B) (hr : DR W W.heap.size D Y) (hB : r < B) (x : Int) : DE w.heap.size w D x (.returned (.tuple #[dv D Y, .int .i64 x])) (((W.setCell ⟨r, 0, none⟩ (.int .i64 D.vn)).setCell ⟨r, 1, none⟩ (.slice Y.A D.l.length Y.c)).setCell ⟨r, 2, none⟩ (.slice Y.A2 D.F.length Y.c2)) := by
  have f : ∀ o, DOff D Y (⟨r, o, none⟩ : Addr).block := fun o => hn.off hB
  exact ⟨Y, rfl, hn.low (by omega), (((hr.offp (q := ⟨r, 0, none⟩) (f 0) _).offp (q := ⟨r, 1, none⟩) (f 1) _).offp (q := ⟨r, 2, none⟩) (f 2) _).more (by simp), ((hbel.setCell (p := ⟨r, 0, none⟩) (show w.heap.size ≤ r by omega) _).setCell (p := ⟨r, 1, none⟩) (show w.heap.size ≤ r by omega) _).setCell (p := ⟨r, 2, none⟩) (show w.heap.size ≤ r by omega) _⟩

set_option maxHeartbeats 8000000 in
set_option maxRecDepth 20000 in
theorem dapply_any (d : Dd) (X : Dx) (e : Ed) (w : World) (hd : DR w w.heap.size d X) (hl : d.l.length ≤ 90) :
    Calls Try.prog 31 #[dv d X, e.v] w (DE w.heap.size w (apD d e) (apE d e)) := by
  have H0 := Lib.hid (Ab.start d X e hd)
  have HVA := Lib.hid (fun p q r W (k : Ab w p q r d X e W) => dvalid_any d X W k.da.dr)
  have HST := Lib.hid (fun W => slotTest_any d X W)
  have HHL := Lib.hid hl
  obtain ⟨p, hp⟩ : ∃ p, p = w.heap.size := ⟨_, rfl⟩
  obtain ⟨q, hq⟩ : ∃ q, q = w.heap.size + 1 := ⟨_, rfl⟩
  obtain ⟨r, hr⟩ : ∃ r, r = w.heap.size + 1 + 1 := ⟨_, rfl⟩
  have HPP := Lib.hid (show (p = w.heap.size ∧ q = w.heap.size + 1 ∧ r = w.heap.size + 1 + 1) ∧ (¬ p = q ∧ ¬ q = p ∧ ¬ p = r ∧ ¬ r = p ∧ ¬ q = r ∧ ¬ r = q) by omega)
  obtain ⟨R, hR⟩ : ∃ R, R = apD d e := ⟨_, rfl⟩
  obtain ⟨x, hx⟩ : ∃ x, x = apE d e := ⟨_, rfl⟩
  rw [← hR, ← hx]
  have HRX := Lib.hid (And.intro hR hx)
  clear hR hx hp hq hr hd hl
  by_cases hv : vaD d = 0
  · rw [hv] at HVA
    by_cases h6 : d.vn = 1099511627776
    · have HRE := Lib.hid (show x = 6 ∧ R = zD from by
        have h7 : apE d e = 6 := by rw [apE_N (by rw [apN_6 hv h6]; decide), apN_6 hv h6]
        exact ⟨HRX.out.2.trans h7, by rw [HRX.out.1, apD_no (by rw [h7]; decide)]⟩)
      have h6' : (d.vn == 1099511627776) = true := by simpa using h6
      clear hv h6
      go_enter Try.func31, Try.ntmps31
      go_wp2_with fail
      have H0 := Lib.hid (show Ab w p q r d X e (((w.alloc (.cells #[.int .i64 d.vn, .slice X.A d.l.length X.c, .slice X.A2 d.F.length X.c2] 47)).alloc (.cells #[.int .i64 e.kd, .int .i64 e.fr, .int .i64 e.to, .int .i64 e.md] 49)).alloc (.cells #[.int .i64 0, .slice none 0 0, .slice none 0 0] 47)) from by rw [HPP.out.1.1, HPP.out.1.2.1, HPP.out.1.2.2]; exact H0.out)
      rw [← HPP.out.1.2.2, ← HPP.out.1.2.1, ← HPP.out.1.1]
      generalize ((w.alloc (.cells #[.int .i64 d.vn, .slice X.A d.l.length X.c, .slice X.A2 d.F.length X.c2] 47)).alloc (.cells #[.int .i64 e.kd, .int .i64 e.fr, .int .i64 e.to, .int .i64 e.md] 49)).alloc (.cells #[.int .i64 0, .slice none 0 0, .slice none 0 0] 47) = w0 at *
      refine (HVA.out _ _ _ _ H0.out).mono ?_
      rintro e1 w1 ⟨rfl, hb⟩
      have H1 := Lib.hid (H0.out.below hb)
      clear hb H0 HVA
      obtain ⟨x0, x1, x2, -, xl⟩ := H1.out.da.db
      obtain ⟨y0, y1, y2, y3, yl⟩ := H1.out.eb
      obtain ⟨⟨r0, r1, r2, rl⟩, g0, g1, g2⟩ := H1.out.rb.all
      have HO := Lib.hid (H1.out.out0 6)
      go_wp2
      exact bodyPost_ret (v := .tuple #[.agg #[.int .i64 0, .slice none 0 0, .slice none 0 0], .int .i64 6]) (by simp only [results, Try.results31]; go_simp <;> rfl) rfl (by rw [HRE.out.1, HRE.out.2]; exact HO.out)
    · have h6' : (d.vn == 1099511627776) = false := by simpa using h6
      by_cases hk : e.kd = 1 ∨ e.kd = 2
      · have HOK := Lib.hid (ok_va hv)
        have hn6 : d.F.length ≤ 1000 := by have := HOK.out.rg.2.2; omega
        have HS1 := Lib.hid (fun p x W hp hc => slot1_any x p X.A2 d.F.length X.c2 W hp hc hn6)
        have hkk : (e.kd != 1) = false ∨ ((e.kd != 1) = true ∧ (e.kd != 2) = false) := by
          rcases hk with h | h
          · left; simpa using h
          · right; rw [h]; decide
        by_cases hf : slotP d.F.length e.fr
        · have HDfr := Lib.hid (decide_eq_true hf)
          by_cases ht : slotP d.F.length e.to
          · have HDto := Lib.hid (decide_eq_true ht)
            have HSL := Lib.hid (And.intro hf ht)
            have HAN := Lib.hid (apN_0 hv h6 hk hf ht)
            clear hkk hf ht
            rcases hk with hk | hk
            · have HEX := Lib.hid (show x = spE d e ∧ R = if spE d e = 0 then Dd.mk (d.vn + 1) (spL d.l (ixS d.l e.fr).toNat e) (d.F.set e.to.toNat (-1)) else zD from by
                have h7 : apE d e = spE d e := apE_1 HAN.out hk
                refine ⟨HRX.out.2.trans h7, ?_⟩
                rw [HRX.out.1]
                by_cases h8 : spE d e = 0
                · rw [if_pos h8, apD_1 (by rw [h7]; exact h8) hk]; rfl
                · rw [if_neg h8, apD_no (by rw [h7]; exact h8)])
              have k1 : (e.kd != 1) = false := by simpa using hk
              have k3 : (e.kd == 1) = true := by simpa using hk
              clear hv h6 hk
              go_enter Try.func31, Try.ntmps31
              go_wp2_with fail
              have H0 := Lib.hid (show Ab w p q r d X e (((w.alloc (.cells #[.int .i64 d.vn, .slice X.A d.l.length X.c, .slice X.A2 d.F.length X.c2] 47)).alloc (.cells #[.int .i64 e.kd, .int .i64 e.fr, .int .i64 e.to, .int .i64 e.md] 49)).alloc (.cells #[.int .i64 0, .slice none 0 0, .slice none 0 0] 47)) from by rw [HPP.out.1.1, HPP.out.1.2.1, HPP.out.1.2.2]; exact H0.out)
              rw [← HPP.out.1.2.2, ← HPP.out.1.2.1, ← HPP.out.1.1]
              generalize ((w.alloc (.cells #[.int .i64 d.vn, .slice X.A d.l.length X.c, .slice X.A2 d.F.length X.c2] 47)).alloc (.cells #[.int .i64 e.kd, .int .i64 e.fr, .int .i64 e.to, .int .i64 e.md] 49)).alloc (.cells #[.int .i64 0, .slice none 0 0, .slice none 0 0] 47) = w0 at *
              refine (HVA.out _ _ _ _ H0.out).mono ?_
              rintro e1 w1 ⟨rfl, hb⟩
              have H1 := Lib.hid (H0.out.below hb)
              clear hb H0 HVA
              obtain ⟨x0, x1, x2, -, xl⟩ := H1.out.da.db
              obtain ⟨y0, y1, y2, y3, yl⟩ := H1.out.eb
              go_wp2_with fail
              refine (HST.out _).mono ?_
              rintro e1 w2 ⟨rfl, hw2⟩
              obtain ⟨z, hz⟩ : ∃ z, z = w1.heap.size := ⟨_, rfl⟩
              have H2 := Lib.hid (show Ab w p q r d X e w2 from by rw [hw2]; exact H1.out.below ((Below.refl _ _).alloc (Nat.le_refl _) _))
              have Q2 := Lib.hid (show w2.cell? ⟨z, 2, none⟩ = some (.slice X.A2 d.F.length X.c2) ∧ z < w2.heap.size from by rw [hw2, hz]; exact ⟨by simp [go_sem], by simp⟩)
              rw [← hz]
              dsimp only [stV]
              clear x0 x1 x2 xl y0 y1 y2 y3 yl
              clear hz hw2 H1 HST
              have HSF := Lib.hid (HS1.out z e.fr w2 Q2.out.2 Q2.out.1)
              rw [HDfr.out] at HSF
              obtain ⟨x0, x1, x2, -, xl⟩ := H2.out.da.db
              obtain ⟨y0, y1, y2, y3, yl⟩ := H2.out.eb
              go_wp2_with fail
              clear x0 x1 x2 xl y0 y1 y2 y3 yl
              refine HSF.out.mono ?_
              rintro e1 w3 ⟨rfl, hw⟩
              subst hw
              have HSF := Lib.hid (HS1.out z e.to w2 Q2.out.2 Q2.out.1)
              rw [HDto.out] at HSF
              obtain ⟨x0, x1, x2, -, xl⟩ := H2.out.da.db
              obtain ⟨y0, y1, y2, y3, yl⟩ := H2.out.eb
              go_wp2_with fail
              clear x0 x1 x2 xl y0 y1 y2 y3 yl
              refine HSF.out.mono ?_
              rintro e1 w3 ⟨rfl, hw⟩
              subst hw
              go_upto_region 11 with (fail)
              have HP0 := Lib.hid (show Nx w p q r d X e none none none w2 from Nx.start H2.out)
              have HP := Lib.hid HP0.out.drew
              have HCL := Lib.hid (fun W (a b : Option Value) (c : Option Nat) (k : Nx w p q r d X e a b c W) => spclone_any X.A d.l.length X.c d.l W k.ab.da.dr.pl (by have := HHL.out; omega))
              have HCF := Lib.hid (fun W (a b : Option Value) (c : Option Nat) (k : Nx w p q r d X e a b c W) => niclone_any X.A2 d.F.length X.c2 d.F W k.ab.da.dr.fl hn6)
              have hwv : wrap64 (d.vn + 1) = d.vn + 1 := IntWalk.wrap64_in _ (by have := HOK.out.rg.1; omega)
              have hwv2 : IntKind.i64.wrap (d.vn + 1) = d.vn + 1 := IntWalk.i64_in _ (by have := HOK.out.rg.1; omega)
              have HLF := Lib.hid (And.intro (rfl : d.l.length = d.l.length) (rfl : d.F.length = d.F.length))
              go_cut [8] (fun s8 wx => ∃ (y : Nat) (Y : Dx), s8 = .pointer (some ⟨y, 0, none⟩) ∧ Hid (Ny w p q r y d X e Y wx))
              case first =>
                have HSK := Lib.hid (fun W' (hb : Below (p + 1) w2 W') => H2.out.k3 hb)
                have HBZ := Lib.hid (Below.refl (p + 1) w2)
                have hpl := H2.out.da.db.lt
                go_region_held3 (fun W => K3 p d X W)
                  ((refine HSK.out _ ?_; repeat' (first | with_reducible exact HBZ.out | with_reducible refine dal ?_ ?_ | with_reducible refine dst ?_ ?_ | with_reducible refine ddr ?_ | omega | (simp; omega))))
                  (first
                    | (go_at_call 55; (first | (have HV := Lib.hid HP.out; with_reducible refine (HCL.out _ _ _ _ HV.out).mono ?_) | (have HV := Lib.hid (HP.out.ax 47); with_reducible refine (HCL.out _ _ _ _ HV.out).mono ?_) | (have HV := Lib.hid (HP0.out.ax 47).drew; with_reducible refine (HCL.out _ _ _ _ HV.out).mono ?_)); rintro e1 w3 ⟨v, rfl, ho, hb⟩; obtain ⟨A, c, rfl⟩ := own_form ho; have HP := Lib.hid (HV.out.cl ho hb); have HSK := Lib.hid (fun W' (hb : Below (p + 1) w3 W') => HP.out.ab.k3 hb); have HBZ := Lib.hid (Below.refl (p + 1) w3); have hpl := HP.out.ab.da.db.lt; (try (obtain ⟨⟨b0, b1, b2, bl⟩, g0, g1, g2⟩ := HP.out.xf.1.all; have hxr := HP.out.xf.2; have hrq := HP.out.ab.ne)); clear HV ho hb)
                    | (go_at_call 56; (first | (have HV := Lib.hid HP.out; with_reducible refine (HCF.out _ _ _ _ HV.out).mono ?_) | (have HV := Lib.hid (HP.out.ax 47); with_reducible refine (HCF.out _ _ _ _ HV.out).mono ?_) | (have HV := Lib.hid (HP0.out.ax 47).drew; with_reducible refine (HCF.out _ _ _ _ HV.out).mono ?_)); rintro e1 w3 ⟨v, rfl, ho, hb⟩; obtain ⟨A2, c2, rfl⟩ := own_form ho; have HP := Lib.hid (HV.out.cf ho hb); have HSK := Lib.hid (fun W' (hb : Below (p + 1) w3 W') => HP.out.ab.k3 hb); have HBZ := Lib.hid (Below.refl (p + 1) w3); have hpl := HP.out.ab.da.db.lt; (try (obtain ⟨⟨b0, b1, b2, bl⟩, g0, g1, g2⟩ := HP.out.xf.1.all; have hxr := HP.out.xf.2; have hrq := HP.out.ab.ne)); clear HV ho hb))
                all_goals
                  go_wp2_with fail
                  go_meet
                  (try rw [hwv2])
                  first
                  | exact ⟨_, ⟨A, c, A2, c2⟩, rfl, Lib.hid (ny_1 HP.out 47)⟩
                  | exact ⟨_, ⟨A, c, A2, c2⟩, rfl, Lib.hid (ny_2 HP.out)⟩
              case rest =>
                clear HP0 HP H2 HCL HCF Q2 HS1 HDfr HDto
                obtain ⟨y, Y, rfl, HN⟩ := hcut
                have HSP := Lib.hid (show Calls Try.prog 57 #[dv ⟨d.vn + 1, d.l, d.F⟩ Y, e.v] wc (DE (r + 1) wc (if spE d e = 0 then Dd.mk (d.vn + 1) (spL d.l (ixS d.l e.fr).toNat e) (d.F.set e.to.toNat (-1)) else zD) (spE d e)) from dsplit_any (r + 1) ⟨d.vn + 1, d.l, d.F⟩ Y e wc (Nat.succ_le_of_lt HN.out.ab.rb.lt) HN.out.fl HN.out.ff HN.out.d1 HHL.out (fun k hk => ok_rng HOK.out hk) HSL.out.2)
                rw [← HEX.out.2, ← HEX.out.1] at HSP
                generalize wc = w5 at *
                obtain ⟨x0, x1, x2, -, xl⟩ := HN.out.xb
                obtain ⟨y0, y1, y2, y3, yl⟩ := HN.out.ab.eb
                dsimp only at x0 x1 x2
                go_wp2_with fail
                clear x0 x1 x2 xl y0 y1 y2 y3 yl
                refine HSP.out.mono ?_
                rintro e1 w6 ⟨Z, rfl, hnw, hdr, hb⟩
                have HFI := Lib.hid (HN.out.ab.fin hb)
                have HO := Lib.hid (fin_out (w := w) HPP.out.1.2.2 HFI.out.2 hnw hdr (Nat.lt_succ_self r) x)
                obtain ⟨⟨r0, r1, r2, rl⟩, g0, g1, g2⟩ := HFI.out.1.all
                clear hnw hdr hb HSP HEX
                go_wp2
                exact bodyPost_ret (v := .tuple #[dv R Z, .int .i64 x]) (by simp only [results, Try.results31]; go_simp <;> rfl) rfl HO.out
            · have HEX := Lib.hid (show x = meE d e ∧ R = if meE d e = 0 then Dd.mk (d.vn + 1) (meL d.l (min (ixS d.l e.fr) (ixS d.l e.to)).toNat e) (d.F.set e.fr.toNat e.to) else zD from by
                have h7 : apE d e = meE d e := apE_2 HAN.out hk
                refine ⟨HRX.out.2.trans h7, ?_⟩
                rw [HRX.out.1]
                by_cases h8 : meE d e = 0
                · rw [if_pos h8, apD_2 (by rw [h7]; exact h8) hk]; rfl
                · rw [if_neg h8, apD_no (by rw [h7]; exact h8)])
              have k1 : (e.kd != 1) = true := by rw [hk]; decide
              have k2 : (e.kd != 2) = false := by simpa using hk
              have k3 : (e.kd == 1) = false := by rw [hk]; decide
              clear hv h6 hk
              go_enter Try.func31, Try.ntmps31
              go_wp2_with fail
              have H0 := Lib.hid (show Ab w p q r d X e (((w.alloc (.cells #[.int .i64 d.vn, .slice X.A d.l.length X.c, .slice X.A2 d.F.length X.c2] 47)).alloc (.cells #[.int .i64 e.kd, .int .i64 e.fr, .int .i64 e.to, .int .i64 e.md] 49)).alloc (.cells #[.int .i64 0, .slice none 0 0, .slice none 0 0] 47)) from by rw [HPP.out.1.1, HPP.out.1.2.1, HPP.out.1.2.2]; exact H0.out)
              rw [← HPP.out.1.2.2, ← HPP.out.1.2.1, ← HPP.out.1.1]
              generalize ((w.alloc (.cells #[.int .i64 d.vn, .slice X.A d.l.length X.c, .slice X.A2 d.F.length X.c2] 47)).alloc (.cells #[.int .i64 e.kd, .int .i64 e.fr, .int .i64 e.to, .int .i64 e.md] 49)).alloc (.cells #[.int .i64 0, .slice none 0 0, .slice none 0 0] 47) = w0 at *
              refine (HVA.out _ _ _ _ H0.out).mono ?_
              rintro e1 w1 ⟨rfl, hb⟩
              have H1 := Lib.hid (H0.out.below hb)
              clear hb H0 HVA
              obtain ⟨x0, x1, x2, -, xl⟩ := H1.out.da.db
              obtain ⟨y0, y1, y2, y3, yl⟩ := H1.out.eb
              go_wp2_with fail
              refine (HST.out _).mono ?_
              rintro e1 w2 ⟨rfl, hw2⟩
              obtain ⟨z, hz⟩ : ∃ z, z = w1.heap.size := ⟨_, rfl⟩
              have H2 := Lib.hid (show Ab w p q r d X e w2 from by rw [hw2]; exact H1.out.below ((Below.refl _ _).alloc (Nat.le_refl _) _))
              have Q2 := Lib.hid (show w2.cell? ⟨z, 2, none⟩ = some (.slice X.A2 d.F.length X.c2) ∧ z < w2.heap.size from by rw [hw2, hz]; exact ⟨by simp [go_sem], by simp⟩)
              rw [← hz]
              dsimp only [stV]
              clear x0 x1 x2 xl y0 y1 y2 y3 yl
              clear hz hw2 H1 HST
              have HSF := Lib.hid (HS1.out z e.fr w2 Q2.out.2 Q2.out.1)
              rw [HDfr.out] at HSF
              obtain ⟨x0, x1, x2, -, xl⟩ := H2.out.da.db
              obtain ⟨y0, y1, y2, y3, yl⟩ := H2.out.eb
              go_wp2_with fail
              clear x0 x1 x2 xl y0 y1 y2 y3 yl
              refine HSF.out.mono ?_
              rintro e1 w3 ⟨rfl, hw⟩
              subst hw
              have HSF := Lib.hid (HS1.out z e.to w2 Q2.out.2 Q2.out.1)
              rw [HDto.out] at HSF
              obtain ⟨x0, x1, x2, -, xl⟩ := H2.out.da.db
              obtain ⟨y0, y1, y2, y3, yl⟩ := H2.out.eb
              go_wp2_with fail
              clear x0 x1 x2 xl y0 y1 y2 y3 yl
              refine HSF.out.mono ?_
              rintro e1 w3 ⟨rfl, hw⟩
              subst hw
              go_upto_region 11 with (fail)
              have HP0 := Lib.hid (show Nx w p q r d X e none none none w2 from Nx.start H2.out)
              have HP := Lib.hid HP0.out.drew
              have HCL := Lib.hid (fun W (a b : Option Value) (c : Option Nat) (k : Nx w p q r d X e a b c W) => spclone_any X.A d.l.length X.c d.l W k.ab.da.dr.pl (by have := HHL.out; omega))
              have HCF := Lib.hid (fun W (a b : Option Value) (c : Option Nat) (k : Nx w p q r d X e a b c W) => niclone_any X.A2 d.F.length X.c2 d.F W k.ab.da.dr.fl hn6)
              have hwv : wrap64 (d.vn + 1) = d.vn + 1 := IntWalk.wrap64_in _ (by have := HOK.out.rg.1; omega)
              have hwv2 : IntKind.i64.wrap (d.vn + 1) = d.vn + 1 := IntWalk.i64_in _ (by have := HOK.out.rg.1; omega)
              have HLF := Lib.hid (And.intro (rfl : d.l.length = d.l.length) (rfl : d.F.length = d.F.length))
              go_cut [8] (fun s8 wx => ∃ (y : Nat) (Y : Dx), s8 = .pointer (some ⟨y, 0, none⟩) ∧ Hid (Ny w p q r y d X e Y wx))
              case first =>
                have HSK := Lib.hid (fun W' (hb : Below (p + 1) w2 W') => H2.out.k3 hb)
                have HBZ := Lib.hid (Below.refl (p + 1) w2)
                have hpl := H2.out.da.db.lt
                go_region_held3 (fun W => K3 p d X W)
                  ((refine HSK.out _ ?_; repeat' (first | with_reducible exact HBZ.out | with_reducible refine dal ?_ ?_ | with_reducible refine dst ?_ ?_ | with_reducible refine ddr ?_ | omega | (simp; omega))))
                  (first
                    | (go_at_call 55; (first | (have HV := Lib.hid HP.out; with_reducible refine (HCL.out _ _ _ _ HV.out).mono ?_) | (have HV := Lib.hid (HP.out.ax 47); with_reducible refine (HCL.out _ _ _ _ HV.out).mono ?_) | (have HV := Lib.hid (HP0.out.ax 47).drew; with_reducible refine (HCL.out _ _ _ _ HV.out).mono ?_)); rintro e1 w3 ⟨v, rfl, ho, hb⟩; obtain ⟨A, c, rfl⟩ := own_form ho; have HP := Lib.hid (HV.out.cl ho hb); have HSK := Lib.hid (fun W' (hb : Below (p + 1) w3 W') => HP.out.ab.k3 hb); have HBZ := Lib.hid (Below.refl (p + 1) w3); have hpl := HP.out.ab.da.db.lt; (try (obtain ⟨⟨b0, b1, b2, bl⟩, g0, g1, g2⟩ := HP.out.xf.1.all; have hxr := HP.out.xf.2; have hrq := HP.out.ab.ne)); clear HV ho hb)
                    | (go_at_call 56; (first | (have HV := Lib.hid HP.out; with_reducible refine (HCF.out _ _ _ _ HV.out).mono ?_) | (have HV := Lib.hid (HP.out.ax 47); with_reducible refine (HCF.out _ _ _ _ HV.out).mono ?_) | (have HV := Lib.hid (HP0.out.ax 47).drew; with_reducible refine (HCF.out _ _ _ _ HV.out).mono ?_)); rintro e1 w3 ⟨v, rfl, ho, hb⟩; obtain ⟨A2, c2, rfl⟩ := own_form ho; have HP := Lib.hid (HV.out.cf ho hb); have HSK := Lib.hid (fun W' (hb : Below (p + 1) w3 W') => HP.out.ab.k3 hb); have HBZ := Lib.hid (Below.refl (p + 1) w3); have hpl := HP.out.ab.da.db.lt; (try (obtain ⟨⟨b0, b1, b2, bl⟩, g0, g1, g2⟩ := HP.out.xf.1.all; have hxr := HP.out.xf.2; have hrq := HP.out.ab.ne)); clear HV ho hb))
                all_goals
                  go_wp2_with fail
                  go_meet
                  (try rw [hwv2])
                  first
                  | exact ⟨_, ⟨A, c, A2, c2⟩, rfl, Lib.hid (ny_1 HP.out 47)⟩
                  | exact ⟨_, ⟨A, c, A2, c2⟩, rfl, Lib.hid (ny_2 HP.out)⟩
              case rest =>
                clear HP0 HP H2 HCL HCF Q2 HS1 HDfr HDto
                obtain ⟨y, Y, rfl, HN⟩ := hcut
                have HSP := Lib.hid (show Calls Try.prog 58 #[dv ⟨d.vn + 1, d.l, d.F⟩ Y, e.v] wc (DE (r + 1) wc (if meE d e = 0 then Dd.mk (d.vn + 1) (meL d.l (min (ixS d.l e.fr) (ixS d.l e.to)).toNat e) (d.F.set e.fr.toNat e.to) else zD) (meE d e)) from dmerge_any (r + 1) ⟨d.vn + 1, d.l, d.F⟩ Y e wc (Nat.succ_le_of_lt HN.out.ab.rb.lt) HN.out.fl HN.out.ff HN.out.d1 HHL.out HSL.out.1)
                rw [← HEX.out.2, ← HEX.out.1] at HSP
                generalize wc = w5 at *
                obtain ⟨x0, x1, x2, -, xl⟩ := HN.out.xb
                obtain ⟨y0, y1, y2, y3, yl⟩ := HN.out.ab.eb
                dsimp only at x0 x1 x2
                go_wp2_with fail
                clear x0 x1 x2 xl y0 y1 y2 y3 yl
                refine HSP.out.mono ?_
                rintro e1 w6 ⟨Z, rfl, hnw, hdr, hb⟩
                have HFI := Lib.hid (HN.out.ab.fin hb)
                have HO := Lib.hid (fin_out (w := w) HPP.out.1.2.2 HFI.out.2 hnw hdr (Nat.lt_succ_self r) x)
                obtain ⟨⟨r0, r1, r2, rl⟩, g0, g1, g2⟩ := HFI.out.1.all
                clear hnw hdr hb HSP HEX
                go_wp2
                exact bodyPost_ret (v := .tuple #[dv R Z, .int .i64 x]) (by simp only [results, Try.results31]; go_simp <;> rfl) rfl HO.out
          · have HDto := Lib.hid (decide_eq_false ht)
            have HRE := Lib.hid (show x = 4 ∧ R = zD from by
              have h7 : apE d e = 4 := by rw [apE_N (by rw [apN_4 hv h6 hk (.inr ht)]; decide), apN_4 hv h6 hk (.inr ht)]
              exact ⟨HRX.out.2.trans h7, by rw [HRX.out.1, apD_no (by rw [h7]; decide)]⟩)
            clear hv h6 hk hf ht
            rcases hkk with k1 | ⟨k1, k2⟩
            all_goals
              go_enter Try.func31, Try.ntmps31
              go_wp2_with fail
              have H0 := Lib.hid (show Ab w p q r d X e (((w.alloc (.cells #[.int .i64 d.vn, .slice X.A d.l.length X.c, .slice X.A2 d.F.length X.c2] 47)).alloc (.cells #[.int .i64 e.kd, .int .i64 e.fr, .int .i64 e.to, .int .i64 e.md] 49)).alloc (.cells #[.int .i64 0, .slice none 0 0, .slice none 0 0] 47)) from by rw [HPP.out.1.1, HPP.out.1.2.1, HPP.out.1.2.2]; exact H0.out)
              rw [← HPP.out.1.2.2, ← HPP.out.1.2.1, ← HPP.out.1.1]
              generalize ((w.alloc (.cells #[.int .i64 d.vn, .slice X.A d.l.length X.c, .slice X.A2 d.F.length X.c2] 47)).alloc (.cells #[.int .i64 e.kd, .int .i64 e.fr, .int .i64 e.to, .int .i64 e.md] 49)).alloc (.cells #[.int .i64 0, .slice none 0 0, .slice none 0 0] 47) = w0 at *
              refine (HVA.out _ _ _ _ H0.out).mono ?_
              rintro e1 w1 ⟨rfl, hb⟩
              have H1 := Lib.hid (H0.out.below hb)
              clear hb H0 HVA
              obtain ⟨x0, x1, x2, -, xl⟩ := H1.out.da.db
              obtain ⟨y0, y1, y2, y3, yl⟩ := H1.out.eb
              go_wp2_with fail
              refine (HST.out _).mono ?_
              rintro e1 w2 ⟨rfl, hw2⟩
              obtain ⟨z, hz⟩ : ∃ z, z = w1.heap.size := ⟨_, rfl⟩
              have H2 := Lib.hid (show Ab w p q r d X e w2 from by rw [hw2]; exact H1.out.below ((Below.refl _ _).alloc (Nat.le_refl _) _))
              have Q2 := Lib.hid (show w2.cell? ⟨z, 2, none⟩ = some (.slice X.A2 d.F.length X.c2) ∧ z < w2.heap.size from by rw [hw2, hz]; exact ⟨by simp [go_sem], by simp⟩)
              rw [← hz]
              dsimp only [stV]
              clear x0 x1 x2 xl y0 y1 y2 y3 yl
              clear hz hw2 H1 HST
              have HSF := Lib.hid (HS1.out z e.fr w2 Q2.out.2 Q2.out.1)
              rw [HDfr.out] at HSF
              obtain ⟨x0, x1, x2, -, xl⟩ := H2.out.da.db
              obtain ⟨y0, y1, y2, y3, yl⟩ := H2.out.eb
              go_wp2_with fail
              clear x0 x1 x2 xl y0 y1 y2 y3 yl
              refine HSF.out.mono ?_
              rintro e1 w3 ⟨rfl, hw⟩
              subst hw
              have HSF := Lib.hid (HS1.out z e.to w2 Q2.out.2 Q2.out.1)
              rw [HDto.out] at HSF
              obtain ⟨x0, x1, x2, -, xl⟩ := H2.out.da.db
              obtain ⟨y0, y1, y2, y3, yl⟩ := H2.out.eb
              go_wp2_with fail
              clear x0 x1 x2 xl y0 y1 y2 y3 yl
              refine HSF.out.mono ?_
              rintro e1 w3 ⟨rfl, hw⟩
              subst hw
              obtain ⟨⟨r0, r1, r2, rl⟩, g0, g1, g2⟩ := H2.out.rb.all
              have HO := Lib.hid (H2.out.out0 4)
              go_wp2
              exact bodyPost_ret (v := .tuple #[.agg #[.int .i64 0, .slice none 0 0, .slice none 0 0], .int .i64 4]) (by simp only [results, Try.results31]; go_simp <;> rfl) rfl (by rw [HRE.out.1, HRE.out.2]; exact HO.out)
        · have HDfr := Lib.hid (decide_eq_false hf)
          have HRE := Lib.hid (show x = 4 ∧ R = zD from by
            have h7 : apE d e = 4 := by rw [apE_N (by rw [apN_4 hv h6 hk (.inl hf)]; decide), apN_4 hv h6 hk (.inl hf)]
            exact ⟨HRX.out.2.trans h7, by rw [HRX.out.1, apD_no (by rw [h7]; decide)]⟩)
          clear hv h6 hk hf
          rcases hkk with k1 | ⟨k1, k2⟩
          all_goals
            go_enter Try.func31, Try.ntmps31
            go_wp2_with fail
            have H0 := Lib.hid (show Ab w p q r d X e (((w.alloc (.cells #[.int .i64 d.vn, .slice X.A d.l.length X.c, .slice X.A2 d.F.length X.c2] 47)).alloc (.cells #[.int .i64 e.kd, .int .i64 e.fr, .int .i64 e.to, .int .i64 e.md] 49)).alloc (.cells #[.int .i64 0, .slice none 0 0, .slice none 0 0] 47)) from by rw [HPP.out.1.1, HPP.out.1.2.1, HPP.out.1.2.2]; exact H0.out)
            rw [← HPP.out.1.2.2, ← HPP.out.1.2.1, ← HPP.out.1.1]
            generalize ((w.alloc (.cells #[.int .i64 d.vn, .slice X.A d.l.length X.c, .slice X.A2 d.F.length X.c2] 47)).alloc (.cells #[.int .i64 e.kd, .int .i64 e.fr, .int .i64 e.to, .int .i64 e.md] 49)).alloc (.cells #[.int .i64 0, .slice none 0 0, .slice none 0 0] 47) = w0 at *
            refine (HVA.out _ _ _ _ H0.out).mono ?_
            rintro e1 w1 ⟨rfl, hb⟩
            have H1 := Lib.hid (H0.out.below hb)
            clear hb H0 HVA
            obtain ⟨x0, x1, x2, -, xl⟩ := H1.out.da.db
            obtain ⟨y0, y1, y2, y3, yl⟩ := H1.out.eb
            go_wp2_with fail
            refine (HST.out _).mono ?_
            rintro e1 w2 ⟨rfl, hw2⟩
            obtain ⟨z, hz⟩ : ∃ z, z = w1.heap.size := ⟨_, rfl⟩
            have H2 := Lib.hid (show Ab w p q r d X e w2 from by rw [hw2]; exact H1.out.below ((Below.refl _ _).alloc (Nat.le_refl _) _))
            have Q2 := Lib.hid (show w2.cell? ⟨z, 2, none⟩ = some (.slice X.A2 d.F.length X.c2) ∧ z < w2.heap.size from by rw [hw2, hz]; exact ⟨by simp [go_sem], by simp⟩)
            rw [← hz]
            dsimp only [stV]
            clear x0 x1 x2 xl y0 y1 y2 y3 yl
            clear hz hw2 H1 HST
            have HSF := Lib.hid (HS1.out z e.fr w2 Q2.out.2 Q2.out.1)
            rw [HDfr.out] at HSF
            obtain ⟨x0, x1, x2, -, xl⟩ := H2.out.da.db
            obtain ⟨y0, y1, y2, y3, yl⟩ := H2.out.eb
            go_wp2_with fail
            clear x0 x1 x2 xl y0 y1 y2 y3 yl
            refine HSF.out.mono ?_
            rintro e1 w3 ⟨rfl, hw⟩
            subst hw
            obtain ⟨⟨r0, r1, r2, rl⟩, g0, g1, g2⟩ := H2.out.rb.all
            have HO := Lib.hid (H2.out.out0 4)
            go_wp2
            exact bodyPost_ret (v := .tuple #[.agg #[.int .i64 0, .slice none 0 0, .slice none 0 0], .int .i64 4]) (by simp only [results, Try.results31]; go_simp <;> rfl) rfl (by rw [HRE.out.1, HRE.out.2]; exact HO.out)
      · have hk' : e.kd ≠ 1 ∧ e.kd ≠ 2 := by omega
        have HRE := Lib.hid (show x = 9 ∧ R = zD from by
          have h7 : apE d e = 9 := by rw [apE_N (by rw [apN_9 hv h6 hk']; decide), apN_9 hv h6 hk']
          exact ⟨HRX.out.2.trans h7, by rw [HRX.out.1, apD_no (by rw [h7]; decide)]⟩)
        have k1 : (e.kd != 1) = true := bne_iff_ne.2 hk'.1
        have k2 : (e.kd != 2) = true := bne_iff_ne.2 hk'.2
        clear hv h6 hk hk'
        go_enter Try.func31, Try.ntmps31
        go_wp2_with fail
        have H0 := Lib.hid (show Ab w p q r d X e (((w.alloc (.cells #[.int .i64 d.vn, .slice X.A d.l.length X.c, .slice X.A2 d.F.length X.c2] 47)).alloc (.cells #[.int .i64 e.kd, .int .i64 e.fr, .int .i64 e.to, .int .i64 e.md] 49)).alloc (.cells #[.int .i64 0, .slice none 0 0, .slice none 0 0] 47)) from by rw [HPP.out.1.1, HPP.out.1.2.1, HPP.out.1.2.2]; exact H0.out)
        rw [← HPP.out.1.2.2, ← HPP.out.1.2.1, ← HPP.out.1.1]
        generalize ((w.alloc (.cells #[.int .i64 d.vn, .slice X.A d.l.length X.c, .slice X.A2 d.F.length X.c2] 47)).alloc (.cells #[.int .i64 e.kd, .int .i64 e.fr, .int .i64 e.to, .int .i64 e.md] 49)).alloc (.cells #[.int .i64 0, .slice none 0 0, .slice none 0 0] 47) = w0 at *
        refine (HVA.out _ _ _ _ H0.out).mono ?_
        rintro e1 w1 ⟨rfl, hb⟩
        have H1 := Lib.hid (H0.out.below hb)
        clear hb H0 HVA
        obtain ⟨x0, x1, x2, -, xl⟩ := H1.out.da.db
        obtain ⟨y0, y1, y2, y3, yl⟩ := H1.out.eb
        obtain ⟨⟨r0, r1, r2, rl⟩, g0, g1, g2⟩ := H1.out.rb.all
        have HO := Lib.hid (H1.out.out0 9)
        go_wp2
        exact bodyPost_ret (v := .tuple #[.agg #[.int .i64 0, .slice none 0 0, .slice none 0 0], .int .i64 9]) (by simp only [results, Try.results31]; go_simp <;> rfl) rfl (by rw [HRE.out.1, HRE.out.2]; exact HO.out)
  · have HRE := Lib.hid (show x = vaD d ∧ R = zD from by
      have h7 : apE d e = vaD d := by rw [apE_N (by rw [apN_va hv]; exact hv), apN_va hv]
      exact ⟨HRX.out.2.trans h7, by rw [HRX.out.1, apD_no (by rw [h7]; exact hv)]⟩)
    have hne : (vaD d != 0) = true := bne_iff_ne.2 hv
    clear hv
    generalize vaD d = v at *
    go_enter Try.func31, Try.ntmps31
    go_wp2_with fail
    have H0 := Lib.hid (show Ab w p q r d X e (((w.alloc (.cells #[.int .i64 d.vn, .slice X.A d.l.length X.c, .slice X.A2 d.F.length X.c2] 47)).alloc (.cells #[.int .i64 e.kd, .int .i64 e.fr, .int .i64 e.to, .int .i64 e.md] 49)).alloc (.cells #[.int .i64 0, .slice none 0 0, .slice none 0 0] 47)) from by rw [HPP.out.1.1, HPP.out.1.2.1, HPP.out.1.2.2]; exact H0.out)
    rw [← HPP.out.1.2.2, ← HPP.out.1.2.1, ← HPP.out.1.1]
    generalize ((w.alloc (.cells #[.int .i64 d.vn, .slice X.A d.l.length X.c, .slice X.A2 d.F.length X.c2] 47)).alloc (.cells #[.int .i64 e.kd, .int .i64 e.fr, .int .i64 e.to, .int .i64 e.md] 49)).alloc (.cells #[.int .i64 0, .slice none 0 0, .slice none 0 0] 47) = w0 at *
    refine (HVA.out _ _ _ _ H0.out).mono ?_
    rintro e1 w1 ⟨rfl, hb⟩
    have H1 := Lib.hid (H0.out.below hb)
    clear hb H0 HVA
    obtain ⟨⟨r0, r1, r2, rl⟩, g0, g1, g2⟩ := H1.out.rb.all
    have HO := Lib.hid (H1.out.out0 v)
    go_wp2
    exact bodyPost_ret (v := .tuple #[.agg #[.int .i64 0, .slice none 0 0, .slice none 0 0], .int .i64 v]) (by simp only [results, Try.results31]; go_simp <;> rfl) rfl (by rw [HRE.out.1, HRE.out.2]; exact HO.out)
end Go.Proofs.Ytdilgeabcacbdaa
namespace Go.Proofs.Ytdilgeabcacbdaa
open Go.RowKit
set_option linter.unusedVariables false

theorem okd_len {d : Dd} (h : vaD d = 0) : d.l.length ≤ 6 := by
  have ho := ok_va h
  have h1 := ho.rg.2.2
  have := pig d.F.length d.l.length (fun v => (sg d.l v).sh.toNat) (fun v hv => by
    have := ho.ms v hv
    show (sg d.l v).sh.toNat < d.F.length
    omega) (fun u v huv hv he => by
    have e1 := ho.ms u (by omega)
    have e2 := ho.ms v hv
    have he' : (sg d.l u).sh.toNat = (sg d.l v).sh.toNat := he
    exact ho.du ⟨u, v, huv, hv, by omega⟩)
  omega
theorem DsAt.other {w W : World} {B g p : Nat} {d : Dd} {X : Dx} (h : DsAt w B g p d X W) {a : Addr} (h1 : a.block ≠ p) (h2 : a.block ≠ g) (h3 : DOff d X a.block) (h4 : w.heap.size ≤ a.block) (v : Value) : DsAt w B g p d X (W.setCell a v) :=
  ⟨h.src.other h2 (by have := h.ne; omega) v, h.db.other h1 v, (h.dr.offp (q := a) h3 v).more (by simp), h.op, h.og, h.ne, h.bel.setCell (p := a) h4 v⟩
/-- .. and the box of the next directory, once it is made. -/
structure DnAt (w : World) (B g p : Nat) (d : Dd) (X : Dx) (oz : Option Nat) (W : World) : Prop where
  ds : DsAt w B g p d X W
  zb : ∀ z, oz = some z → DB W z zD zDx ∧ z ≠ g ∧ z ≠ p ∧ w.heap.size ≤ z ∧ DOff d X z
section
variable {w W W' : World} {B g p : Nat} {d : Dd} {X : Dx} {oz : Option Nat}
theorem DnAt.start (h : DsAt w B g p d X W) : DnAt w B g p d X none W := ⟨h, by simp⟩
theorem DnAt.below (h : DnAt w B g p d X oz W) (hb : Below W.heap.size W W') : DnAt w B g p d X oz W' := ⟨h.ds.below hb, fun z e => ⟨(h.zb z e).1.up hb, (h.zb z e).2⟩⟩
theorem DnAt.drew (h : DnAt w B g p d X oz W) : DnAt w B g p d X oz W.drew := h.below (Below.refl _ _).drew
theorem DnAt.turn (h : DnAt w B g p d X oz W) (hs : SrcAt W' B g) (hg : W.grownBy W' (some g)) : DnAt w B g p d X oz W' := ⟨h.ds.turn hs hg, fun z e => ⟨(h.zb z e).1.grown hg (h.zb z e).2.1, (h.zb z e).2⟩⟩
theorem DnAt.ax (h : DnAt w B g p d X none W) (t : TypeId) : DnAt w B g p d X (some W.heap.size) (W.alloc (.cells #[.int .i64 0, .slice none 0 0, .slice none 0 0] t)) := by
  refine ⟨h.ds.below ((Below.refl _ _).alloc (Nat.le_refl _) _), fun z e => ?_⟩
  injection e with e
  subst e
  have h1 := h.ds.src.2.1
  have h2 := h.ds.db.lt
  have h3 := h.ds.bel.size
  exact ⟨DB.zero W t, by omega, by omega, h3, h.ds.dr.offs (Nat.le_refl _)⟩
theorem DnAt.xf {z : Nat} (h : DnAt w B g p d X (some z) W) : DB W z zD zDx ∧ z ≠ g ∧ z ≠ p := ⟨(h.zb z rfl).1, (h.zb z rfl).2.1, (h.zb z rfl).2.2.1⟩
theorem DnAt.k3 (h : DnAt w B g p d X oz W) {u : World} (hb : Below (p + 1) W u) : K3 p d X u := by
  obtain ⟨⟨x0, x1, x2, xl⟩, -⟩ := h.ds.db.all
  exact ⟨(hb.cell (p := ⟨p, 0, none⟩) (Nat.lt_succ_self p)).trans x0, (hb.cell (p := ⟨p, 1, none⟩) (Nat.lt_succ_self p)).trans x1, (hb.cell (p := ⟨p, 2, none⟩) (Nat.lt_succ_self p)).trans x2⟩
end
/-- .. with the next directory in it. -/
structure DyAt (w : World) (B g p z : Nat) (d : Dd) (X : Dx) (d' : Dd) (Y : Dx) (W : World) : Prop where
  ds : DsAt w B g p d X W
  xb : DB W z d' Y
  xr : DR W W.heap.size d' Y
  o1 : DOff d' Y p
  o2 : DOff d' Y g
  zn : z ≠ g ∧ z ≠ p
section
variable {w W W' : World} {B g p : Nat} {d d' : Dd} {X Y : Dx}
theorem dy_1 (h : DnAt w B g p d X none W) (hr : DR W W.heap.size d' Y) (o1 : DOff d' Y p) (o2 : DOff d' Y g) (t : TypeId) : DyAt w B g p W.heap.size d X d' Y (W.alloc (.cells #[.int .i64 d'.vn, .slice Y.A d'.l.length Y.c, .slice Y.A2 d'.F.length Y.c2] t)) := by
  have h1 := h.ds.src.2.1
  have h2 := h.ds.db.lt
  exact ⟨h.ds.below ((Below.refl _ _).alloc (Nat.le_refl _) _), DB.start W d' Y t, hr.alloc _, o1, o2, by omega, by omega⟩
theorem dy_2 {z : Nat} (h : DnAt w B g p d X (some z) W) (hr : DR W W.heap.size d' Y) (o1 : DOff d' Y p) (o2 : DOff d' Y g) (o3 : DOff d' Y z) : DyAt w B g p z d X d' Y (((W.setCell ⟨z, 0, none⟩ (.int .i64 d'.vn)).setCell ⟨z, 1, none⟩ (.slice Y.A d'.l.length Y.c)).setCell ⟨z, 2, none⟩ (.slice Y.A2 d'.F.length Y.c2)) := by
  obtain ⟨hz, hg, hp, hw, hd⟩ := h.zb z rfl
  exact ⟨((h.ds.other (a := ⟨z, 0, none⟩) hp hg hd hw _).other (a := ⟨z, 1, none⟩) hp hg hd hw _).other (a := ⟨z, 2, none⟩) hp hg hd hw _, hz.set d' Y, (((hr.offp (q := ⟨z, 0, none⟩) o3 _).offp (q := ⟨z, 1, none⟩) o3 _).offp (q := ⟨z, 2, none⟩) o3 _).more (by simp), o1, o2, hg, hp⟩
end
end Go.Proofs.Ytdilgeabcacbdaa
namespace Go.Proofs.Ytdilgeabcacbdaa
set_option linter.unusedVariables false

theorem ok_mid {d : Dd} (h : OkD d) {i : Nat} (hi : i < d.l.length) : (∀ z ∈ d.l.take i, z.sh ≠ (sg d.l i).sh) ∧ (∀ z ∈ d.l.drop (i + 1), z.sh ≠ (sg d.l i).sh) := by
  have hnd := nd_du.2 h.du
  rw [sg_split hi] at hnd
  have e2 : (d.l.take i ++ sg d.l i :: d.l.drop (i + 1)).map (·.sh) = (d.l.take i).map (·.sh) ++ (sg d.l i).sh :: (d.l.drop (i + 1)).map (·.sh) := by simp
  rw [e2] at hnd
  have k1 := (List.nodup_cons.1 ((List.perm_middle.nodup_iff).1 hnd)).1
  simp only [List.mem_append, List.mem_map, not_or, not_exists, not_and] at k1
  exact ⟨fun z hz => k1.1 z hz, fun z hz => k1.2 z hz⟩
/-- The parts of a split. -/
theorem sp_parts {d : Dd} {e : Ed} (h : OkD d) (hE : spE d e = 0) : ∃ i : Nat, i < d.l.length ∧ (sg d.l i).sh = e.fr ∧ ((sg d.l i).lo ≤ e.md ∧ e.md < (sg d.l i).hi) ∧ (spD d e).l = d.l.take i ++ ⟨(sg d.l i).lo, e.md, e.fr⟩ :: ⟨e.md + 1, (sg d.l i).hi, e.to⟩ :: d.l.drop (i + 1) ∧ (∀ z ∈ d.l.take i, z.sh ≠ e.fr) ∧ (∀ z ∈ d.l.drop (i + 1), z.sh ≠ e.fr) := by
  obtain ⟨h1, h2, h3, h4⟩ := spE_ok hE
  obtain ⟨i, hi, hil, hs, _⟩ := ixS_pos h1
  rw [hi] at h3 h4
  have hm := ok_mid h hil
  rw [hs] at hm
  exact ⟨i, hil, hs, ⟨h3, h4⟩, by unfold spD spL; rw [hi]; rfl, hm.1, hm.2⟩
/-- The parts of a merge. -/
theorem me_parts {d : Dd} {e : Ed} (h : OkD d) (hE : meE d e = 0) : ∃ f : Nat, f + 1 < d.l.length ∧ (((sg d.l f).sh = e.fr ∧ (sg d.l (f + 1)).sh = e.to) ∨ ((sg d.l f).sh = e.to ∧ (sg d.l (f + 1)).sh = e.fr)) ∧ d.l = d.l.take f ++ sg d.l f :: sg d.l (f + 1) :: d.l.drop (f + 2) ∧ (meD d e).l = d.l.take f ++ ⟨(sg d.l f).lo, (sg d.l (f + 1)).hi, e.to⟩ :: d.l.drop (f + 2) ∧ (∀ z ∈ d.l.take f, z.sh ≠ e.fr) ∧ (∀ z ∈ d.l.drop (f + 2), z.sh ≠ e.fr) ∧ e.to ≠ e.fr := by
  obtain ⟨h1, h2, h3⟩ := meE_ok hE
  obtain ⟨i, hi, hil, hsi, _⟩ := ixS_pos h1
  obtain ⟨j, hj, hjl, hsj, _⟩ := ixS_pos h2
  obtain ⟨f, hf⟩ : ∃ f : Nat, (min (ixS d.l e.fr) (ixS d.l e.to)).toNat = f := ⟨_, rfl⟩
  have hfx : f + 1 < d.l.length ∧ ((f = i ∧ f + 1 = j) ∨ (f = j ∧ f + 1 = i)) := by
    rw [hi, hj] at hf h3
    omega
  have e2 : d.l.drop (f + 1) = sg d.l (f + 1) :: d.l.drop (f + 2) := by rw [sg_get hfx.1]; exact List.drop_eq_getElem_cons hfx.1
  have e3 : d.l.take (f + 1) = d.l.take f ++ [sg d.l f] := by rw [sg_get (by omega : f < d.l.length)]; exact (List.take_append_getElem (by omega)).symm
  have hl : d.l = d.l.take f ++ sg d.l f :: sg d.l (f + 1) :: d.l.drop (f + 2) := by
    rw [← e2]; exact sg_split (by omega)
  have hm := ok_mid h hil
  rw [hsi] at hm
  refine ⟨f, hfx.1, ?_, hl, by unfold meD meL; rw [hf], ?_⟩
  · rcases hfx.2 with ⟨rfl, e4⟩ | ⟨rfl, e4⟩
    · left; rw [e4]; exact ⟨hsi, hsj⟩
    · right; rw [e4]; exact ⟨hsj, hsi⟩
  · rcases hfx.2 with ⟨rfl, e4⟩ | ⟨rfl, e4⟩
    · refine ⟨hm.1, fun z hz => hm.2 z (by rw [e2]; exact List.mem_cons_of_mem _ hz), ?_⟩
      have := hm.2 (sg d.l (f + 1)) (by rw [e2]; exact List.mem_cons_self)
      rw [e4, hsj] at this; exact this
    · rw [← e4] at hm
      refine ⟨fun z hz => hm.1 z (by rw [e3]; exact List.mem_append_left _ hz), hm.2, ?_⟩
      have := hm.1 (sg d.l f) (by rw [e3]; simp)
      rw [hsj] at this; exact this
theorem ok_chn {d : Dd} (h : OkD d) : chN 0 d.l 65536 := (cv_ch 0 d.l).1 ((cvD_iff _).2 ⟨h.sp, h.en⟩)
/-- Who owns a route behind a change. -/
theorem own_move {d : Dd} {e : Ed} (hE : apE d e = 0) {r : Int} (h0 : 0 ≤ r) (h1 : r ≤ 65535) : ownD (apD d e) r = if ownD d r = e.fr ∧ (e.kd = 2 ∨ e.md < r) then e.to else ownD d r := by
  have hN : apN d e = 0 := by
    by_cases hN : apN d e = 0
    · exact hN
    · rw [apE_N hN] at hE; exact hE
  obtain ⟨hv, _, hk, _, _⟩ := apN_ok hN
  have ho := ok_va hv
  have hv2 := (apD_ok hE).1
  rw [ownD_ok hv, ownD_ok hv2]
  obtain ⟨x, hx, hxr, hxo, hxu⟩ := ch_own (ok_chn ho) h0 (by omega : r < 65536)
  obtain ⟨y, hy, hyr, hyo, -⟩ := ch_own (ok_chn (ok_va hv2)) h0 (by omega : r < 65536)
  rw [hxo, hyo]
  rcases hk with hk | hk
  · rw [apE_1 hN hk] at hE
    obtain ⟨i, hil, hs, hmd, hL, hA, hB⟩ := sp_parts ho hE
    have hD : apD d e = spD d e := apD_1 (by rw [apE_1 hN hk]; exact hE) hk
    rw [hD, hL, List.mem_append, List.mem_cons, List.mem_cons] at hy
    rcases hy with hy | rfl | rfl | hy
    · have := hxu y (List.mem_of_mem_take hy) hyr.1 hyr.2
      subst this
      rw [if_neg (fun g => hA _ hy g.1)]
    · have := hxu (sg d.l i) (sg_mem hil) hyr.1 (by have h2 := hyr.2; simp only at h2; omega)
      subst this
      rw [if_neg (fun g => by rcases g.2 with g2 | g2; omega; have h2 := hyr.2; simp only at h2; omega), hs]
    · have hlo := hyr.1
      simp only at hlo
      have := hxu (sg d.l i) (sg_mem hil) (by omega) hyr.2
      subst this
      rw [if_pos ⟨hs, .inr (by omega)⟩]
    · have := hxu y (List.mem_of_mem_drop hy) hyr.1 hyr.2
      subst this
      rw [if_neg (fun g => hB _ hy g.1)]
  · rw [apE_2 hN hk] at hE
    obtain ⟨f, hfl, hsh, hl, hL, hA, hB, hne⟩ := me_parts ho hE
    have hD : apD d e = meD d e := apD_2 (by rw [apE_2 hN hk]; exact hE) hk
    rw [hD, hL, List.mem_append, List.mem_cons] at hy
    rcases hy with hy | rfl | hy
    · have := hxu y (List.mem_of_mem_take hy) hyr.1 hyr.2
      subst this
      rw [if_neg (fun g => hA _ hy g.1)]
    · have hlo := hyr.1
      have hhi := hyr.2
      simp only at hlo hhi
      have hs1 := (ho.sp (f + 1) hfl).1
      rw [nxD_succ] at hs1
      have hx2 : x = sg d.l f ∨ x = sg d.l (f + 1) := by
        by_cases h2 : r ≤ (sg d.l f).hi
        · exact .inl (hxu (sg d.l f) (sg_mem (by omega)) hlo h2).symm
        · exact .inr (hxu (sg d.l (f + 1)) (sg_mem hfl) (by omega) hhi).symm
      have hx3 : x.sh = e.fr ∨ x.sh = e.to := by
        rcases hx2 with rfl | rfl <;> rcases hsh with ⟨a, b⟩ | ⟨a, b⟩
        · exact .inl a
        · exact .inr a
        · exact .inr b
        · exact .inl b
      rcases hx3 with h3 | h3
      · rw [if_pos ⟨h3, .inl hk⟩]
      · rw [if_neg (fun g => hne (by rw [← h3]; exact g.1)), h3]
    · have := hxu y (List.mem_of_mem_drop hy) hyr.1 hyr.2
      subst this
      rw [if_neg (fun g => hB _ hy g.1)]

/-- Which slots have a span behind a change. -/
theorem has_sp {d : Dd} {e : Ed} (h : OkD d) (hE : spE d e = 0) (s : Int) : hasS (spD d e).l s ↔ (hasS d.l s ∨ s = e.to) := by
  obtain ⟨i, hil, hs, hmd, hL, hA, hB⟩ := sp_parts h hE
  rw [hasS_iff, hasS_iff, hL]
  constructor
  · rintro ⟨z, hz, rfl⟩
    rw [List.mem_append, List.mem_cons, List.mem_cons] at hz
    rcases hz with hz | rfl | rfl | hz
    · exact .inl ⟨z, List.mem_of_mem_take hz, rfl⟩
    · exact .inl ⟨sg d.l i, sg_mem hil, hs⟩
    · exact .inr rfl
    · exact .inl ⟨z, List.mem_of_mem_drop hz, rfl⟩
  · rintro (⟨z, hz, rfl⟩ | rfl)
    · rw [sg_split hil, List.mem_append, List.mem_cons] at hz
      rcases hz with hz | rfl | hz
      · exact ⟨z, List.mem_append_left _ hz, rfl⟩
      · exact ⟨_, List.mem_append_right _ List.mem_cons_self, hs.symm⟩
      · exact ⟨z, List.mem_append_right _ (List.mem_cons_of_mem _ (List.mem_cons_of_mem _ hz)), rfl⟩
    · exact ⟨_, List.mem_append_right _ (List.mem_cons_of_mem _ List.mem_cons_self), rfl⟩
theorem has_me {d : Dd} {e : Ed} (h : OkD d) (hE : meE d e = 0) (s : Int) : hasS (meD d e).l s ↔ (hasS d.l s ∧ s ≠ e.fr) := by
  obtain ⟨f, hfl, hsh, hl, hL, hA, hB, hne⟩ := me_parts h hE
  rw [hasS_iff, hasS_iff, hL]
  constructor
  · rintro ⟨z, hz, rfl⟩
    rw [List.mem_append, List.mem_cons] at hz
    rcases hz with hz | rfl | hz
    · exact ⟨⟨z, List.mem_of_mem_take hz, rfl⟩, hA z hz⟩
    · refine ⟨?_, hne⟩
      rcases hsh with ⟨a, b⟩ | ⟨a, b⟩
      · exact ⟨_, sg_mem hfl, b⟩
      · exact ⟨_, sg_mem (by omega : f < d.l.length), a⟩
    · exact ⟨⟨z, List.mem_of_mem_drop hz, rfl⟩, hB z hz⟩
  · rintro ⟨⟨z, hz, rfl⟩, hzf⟩
    rw [hl, List.mem_append, List.mem_cons, List.mem_cons] at hz
    rcases hz with hz | rfl | rfl | hz
    · exact ⟨z, List.mem_append_left _ hz, rfl⟩
    · refine ⟨_, List.mem_append_right _ List.mem_cons_self, ?_⟩
      rcases hsh with ⟨a, b⟩ | ⟨a, b⟩
      · exact absurd a hzf
      · exact a.symm
    · refine ⟨_, List.mem_append_right _ List.mem_cons_self, ?_⟩
      rcases hsh with ⟨a, b⟩ | ⟨a, b⟩
      · exact b.symm
      · exact absurd b hzf
    · exact ⟨z, List.mem_append_right _ (List.mem_cons_of_mem _ hz), rfl⟩

/-- A slot was ever live just if it has a span or is forwarded; forwards lead to slots that were. -/
structure EvI (N : Nat) (v : Nat → Bool) (d : Dd) : Prop where
  va : vaD d = 0
  ln : d.F.length = N
  ev : ∀ j : Nat, j < N → (v j = true ↔ (hasS d.l (j : Int) ∨ ig d.F j ≠ -1))
  tg : ∀ j : Nat, j < N → ig d.F j ≠ -1 → v (ig d.F j).toNat = true
theorem EvI.apply {N : Nat} {v : Nat → Bool} {d : Dd} {e : Ed} (h : EvI N v d) (hE : apE d e = 0) : slotP N e.to ∧ EvI N (fun j => if j = e.to.toNat then true else v j) (apD d e) := by
  have hN : apN d e = 0 := by
    by_cases hN : apN d e = 0
    · exact hN
    · rw [apE_N hN] at hE; exact hE
  obtain ⟨hv, _, hk, hfr, hto⟩ := apN_ok hN
  have ho := ok_va hv
  obtain ⟨hv2, _, hl2⟩ := apD_ok hE
  have hln := h.ln
  have hto' : slotP N e.to := by rw [← hln]; exact hto
  refine ⟨hto', hv2, by rw [hl2]; exact hln, ?_, ?_⟩
  · intro j hj
    rcases hk with hk | hk
    · have hS : spE d e = 0 := by rw [← apE_1 hN hk]; exact hE
      rw [apD_1 hE hk, has_sp ho hS]
      have hF : (spD d e).F = d.F.set e.to.toNat (-1) := rfl
      rw [hF, ig_set (by have := hto; omega)]
      by_cases hje : j = e.to.toNat
      · rw [if_pos hje]
        exact ⟨fun _ => .inl (.inr (by have := hto.1; omega)), fun _ => by simp⟩
      · rw [if_neg hje]
        simp only [if_neg hje]
        rw [h.ev j hj]
        have hne : ¬ (j : Int) = e.to := by have := hto.1; omega
        constructor
        · rintro (a | a)
          · exact .inl (.inl a)
          · exact .inr a
        · rintro ((a | a) | a)
          · exact .inl a
          · exact absurd a hne
          · exact .inr a
    · have hS : meE d e = 0 := by rw [← apE_2 hN hk]; exact hE
      rw [apD_2 hE hk, has_me ho hS]
      have hF : (meD d e).F = d.F.set e.fr.toNat e.to := rfl
      rw [hF, ig_set (by have := hfr; omega)]
      obtain ⟨m1, m2, _⟩ := meE_ok hS
      obtain ⟨f, hfl, hsh, hl, hL, hA, hB, hne⟩ := me_parts ho hS
      by_cases hjf : j = e.fr.toNat
      · have hjt : ¬ j = e.to.toNat := by have := hto.1; have := hfr.1; omega
        rw [if_pos hjf]
        simp only [if_neg hjt]
        rw [h.ev j hj]
        have e1 : (j : Int) = e.fr := by have := hfr.1; omega
        rw [e1]
        exact ⟨fun _ => .inr (by have := hto.1; omega), fun _ => .inl m1⟩
      · rw [if_neg hjf]
        have hne' : ¬ (j : Int) = e.fr := by have := hfr.1; omega
        by_cases hjt : j = e.to.toNat
        · simp only [if_pos hjt]
          have e1 : (j : Int) = e.to := by have := hto.1; omega
          rw [e1]
          exact ⟨fun _ => .inl ⟨m2, hne⟩, fun _ => trivial⟩
        · simp only [if_neg hjt]
          rw [h.ev j hj]
          constructor
          · rintro (a | a)
            · exact .inl ⟨a, hne'⟩
            · exact .inr a
          · rintro (a | a)
            · exact .inl a.1
            · exact .inr a
  · intro j hj
    rcases hk with hk | hk
    · rw [apD_1 hE hk]
      have hF : (spD d e).F = d.F.set e.to.toNat (-1) := rfl
      rw [hF, ig_set (by have := hto; omega)]
      by_cases hje : j = e.to.toNat
      · rw [if_pos hje]
        exact fun g => absurd rfl g
      · rw [if_neg hje]
        intro g
        have := h.tg j hj g
        by_cases q : (ig d.F j).toNat = e.to.toNat
        · simp only [if_pos q]
        · simp only [if_neg q]; exact this
    · rw [apD_2 hE hk]
      have hF : (meD d e).F = d.F.set e.fr.toNat e.to := rfl
      rw [hF, ig_set (by have := hfr; omega)]
      by_cases hje : j = e.fr.toNat
      · rw [if_pos hje]
        intro _
        simp only [if_true]
      · rw [if_neg hje]
        intro g
        have := h.tg j hj g
        by_cases q : (ig d.F j).toNat = e.to.toNat
        · simp only [if_pos q]
        · simp only [if_neg q]; exact this
theorem ev_hm {N : Nat} {v : Nat → Bool} {d : Dd} (h : EvI N v d) : ∀ (k : Nat) (s H : Int), HmI d k s H → 0 ≤ s → ((v s.toNat = true ↔ 0 ≤ H) ∧ (0 ≤ H → hasS d.l H)) := by
  have ho := ok_va h.va
  intro k
  induction k with
  | zero =>
    intro s H hI hs
    by_cases hh : hasS d.l s
    · have := hI.hit hs hh
      subst this
      have hj : H.toNat < N := by have := hI.1.2; have := h.ln; omega
      refine ⟨⟨fun _ => hs, fun _ => (h.ev H.toNat hj).2 (.inl (by rw [Int.toNat_of_nonneg hs]; exact hh))⟩, fun _ => hh⟩
    · obtain ⟨k', hk, _⟩ := hI.next ho hs hh
      omega
  | succ k ih =>
    intro s H hI hs
    have hj : s.toNat < N := by have := hI.1.2; have := h.ln; omega
    by_cases hh : hasS d.l s
    · have := hI.hit hs hh
      subst this
      refine ⟨⟨fun _ => hs, fun _ => (h.ev H.toNat hj).2 (.inl (by rw [Int.toNat_of_nonneg hs]; exact hh))⟩, fun _ => hh⟩
    · obtain ⟨k', hk, hn⟩ := hI.next ho hs hh
      have hk' : k' = k := by omega
      subst hk'
      by_cases hf : ig d.F s.toNat = -1
      · obtain ⟨_, e2⟩ := hn.last (by omega)
        have hv : ¬ v s.toNat = true := fun g => by
          rcases (h.ev s.toNat hj).1 g with a | a
          · rw [Int.toNat_of_nonneg hs] at a; exact hh a
          · exact a hf
        exact ⟨⟨fun g => absurd g hv, fun g => by omega⟩, fun g => by omega⟩
      · have hb := (ho.f1 s.toNat (by rw [h.ln]; exact hj)).1.1
        have i1 := ih _ H hn (by omega)
        have ht := h.tg s.toNat hj hf
        exact ⟨⟨fun _ => i1.1.1 ht, fun _ => (h.ev s.toNat hj).2 (.inr hf)⟩, i1.2⟩
/-- What the law asks of a slot. -/
theorem EvI.home {N : Nat} {v : Nat → Bool} {d : Dd} (h : EvI N v d) {j : Nat} (hj : j < N) : (v j = decide (0 ≤ homD d (j : Int))) ∧ (spnB d (j : Int) = true → homD d (j : Int) = (j : Int)) ∧ (0 ≤ homD d (j : Int) → spnB d (homD d (j : Int)) = true) := by
  have hs : slotP d.F.length (j : Int) := ⟨by omega, by rw [h.ln]; omega⟩
  have hI := HmI.start h.va hs
  have k := ev_hm h _ _ _ hI (by omega)
  refine ⟨?_, fun hb => ?_, fun h0 => ?_⟩
  · rw [Bool.eq_iff_iff]
    simpa using k.1
  · exact hI.hit (by omega) (of_decide_eq_true hb).2
  · exact decide_eq_true ⟨h.va, k.2 h0⟩
theorem EvI.start {n m : Nat} (h1 : 1 ≤ m) (h2 : m ≤ n) (h3 : n ≤ 6) : EvI n (fun j => decide (j < m)) (nwD n m) := by
  have hE : nwE n m = 0 := by unfold nwE; rw [if_pos (by omega)]
  have hD : nwD n m = ⟨1, nwL m m, List.replicate n (-1)⟩ := by unfold nwD; rw [if_pos hE]; simp
  have hig : ∀ j, j < n → ig (nwD n m).F j = -1 := fun j hj => by rw [hD]; simp [ig, List.getD, hj]
  refine ⟨nw_va h1 h2 h3, by rw [hD]; simp, fun j hj => ?_, fun j hj hg => absurd (hig j hj) hg⟩
  rw [hasS_iff, hD]
  simp only [decide_eq_true_eq]
  constructor
  · intro h
    exact .inl ⟨⟨(j : Int) * 65536 / m, ((j : Int) + 1) * 65536 / m - 1, j⟩, List.mem_map.2 ⟨j, List.mem_range.2 h, rfl⟩, rfl⟩
  · rintro (⟨x, hx, hs⟩ | hg)
    · obtain ⟨i, hi, rfl⟩ := List.mem_map.1 hx
      have := List.mem_range.1 hi
      have : (i : Int) = (j : Int) := hs
      omega
    · have := hig j hj
      rw [hD] at this
      exact absurd this hg
end Go.Proofs.Ytdilgeabcacbdaa
