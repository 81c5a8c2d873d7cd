/- What is proved here: Table of the statements' base makes a valid table; in the statements of layer 6, agrees is true of every table; in the statements of layer 6, awake is true. -/
import Derived.Test.YtjclhlejbidpgaaGreatJ22
import Derived.Test.YtjclhlejbidpgaaGreatJ30
import Derived.Test.YtjclhlejbidpgaaGreatJ17
import Derived.Test.YtjclhlejbidpgaaGreatJ21
import Derived.Test.YtjclhlejbidpgaaGreatJ24
import Derived.Test.YtjclhlejbidpgaaGreatJ25
import Derived.Test.YtjclhlejbidpgaaGreatJ27
import Derived.Test.YtjclhlejbidpgaaGreatJ26
namespace Go.Proofs.YtjclhlejbidpgaaGreat
open Go.RowKit
set_option linter.unusedVariables false

theorem El.grownG {W W' : World} {g lo n c : Nat} {A : Option Addr} {l : List Le} (h : El W W.heap.size (.slice A n c) l) (hA : Nw lo A) (hg : g < lo) (hgr : W.grownBy W' (some g)) : El W' W'.heap.size (.slice A n c) l := by
  obtain ⟨A', c', e, hl, hm, hr⟩ := h
  injection e with e1 e2 e3
  subst e1; subst e3
  refine ⟨A, c, by rw [e2], hl, hm, hr.1, fun h0 => ?_⟩
  obtain ⟨b, o, e, hb, hc⟩ := hr.2 h0
  have hlo : lo ≤ b := hA _ e
  exact ⟨b, o, e, Nat.lt_of_lt_of_le hb hgr.size, fun j u hu => (hgr.cell_far ⟨b, o + j, none⟩ hb (fun e' => by injection e' with e'; have e2 : b = g := e'; omega)).trans (hc j u hu)⟩
theorem Dl.grownT {W W' : World} {g lo n c : Nat} {A : Option Addr} {l : List Du} (h : Dl W W.heap.size (.slice A n c) l) (hA : Nw lo A) (hg : g < lo) (hgr : W.grownBy W' (some g)) : Dl W' W'.heap.size (.slice A n c) l := by
  obtain ⟨A', c', e, hl, hm, hr⟩ := h
  injection e with e1 e2 e3
  subst e1; subst e3
  refine ⟨A, c, by rw [e2], hl, hm, hr.1, fun h0 => ?_⟩
  obtain ⟨b, o, e, hb, hc⟩ := hr.2 h0
  have hlo : lo ≤ b := hA _ e
  exact ⟨b, o, e, Nat.lt_of_lt_of_le hb hgr.size, fun j u hu => (hgr.cell_far ⟨b, o + j, none⟩ hb (fun e' => by injection e' with e'; have e2 : b = g := e'; omega)).trans (hc j u hu)⟩
theorem RT.grownG {W W' : World} {g r n c n2 c2 : Nat} {A A2 : Option Addr} (h : RT W r A n c A2 n2 c2) (hgr : W.grownBy W' (some g)) (hne : r ≠ g) : RT W' r A n c A2 n2 c2 :=
  ⟨(hgr.cell_far ⟨r, 0, none⟩ h.lt (fun e => hne (by injection e))).trans h.c0, (hgr.cell_far ⟨r, 1, none⟩ h.lt (fun e => hne (by injection e))).trans h.c1, (hgr.frozen_far ⟨r, 0, none⟩ h.lt (fun e => hne (by injection e))).trans h.f0, (hgr.frozen_far ⟨r, 1, none⟩ h.lt (fun e => hne (by injection e))).trans h.f1, Nat.lt_of_lt_of_le h.lt hgr.size⟩
theorem RT.put {W : World} {r n c n2 c2 : Nat} {A A2 : Option Addr} (h : RT W r A n c A2 n2 c2) (D : Option Addr) (m d : Nat) (D2 : Option Addr) (m2 d2 : Nat) : RT (set2 W r (.slice D m d) (.slice D2 m2 d2)) r D m d D2 m2 d2 := by
  refine ⟨?_, ?_, by rw [set2_frozen]; exact h.f0, by rw [set2_frozen]; exact h.f1, by rw [set2_size]; exact h.lt⟩
  · rw [World.cell?_setCell_other _ _ _ _ (fun e => by injection e with _ e _; cases e), World.cell?_setCell_same' _ _ _ (by rw [h.c0]; rfl)]
  · rw [World.cell?_setCell_same' _ _ _ (by rw [World.cell?_setCell_other _ _ _ _ (fun e => by injection e with _ e _; cases e), h.c1]; rfl)]
theorem RT.far {W : World} {r y n c n2 c2 : Nat} {A A2 : Option Addr} (h : RT W r A n c A2 n2 c2) (hy : r ≠ y) (v v2 : Value) : RT (set2 W y v v2) r A n c A2 n2 c2 :=
  ⟨(set2_far hy).trans h.c0, (set2_far hy).trans h.c1, by rw [set2_frozen]; exact h.f0, by rw [set2_frozen]; exact h.f1, by rw [set2_size]; exact h.lt⟩
theorem tb_gr {l : List Le} {h : List Du} (t : TbOk l h) (X : Le) : TbOk (grL l h X) (grH l h X) := by
  by_cases e : grE l h X = 0
  · obtain ⟨_, ok, hl, hf⟩ := grE_zero e
    unfold grL grH
    rw [if_pos e, if_pos e]
    exact t.grant ok ok.snd hl hf
  · obtain ⟨h1, h2⟩ := grE_ne e
    rw [h1, h2]
    exact TbOk.nil
/-- A source turned and a valid table as a result. -/
def SrTable (B g : Nat) (w : World) (e : Ending) (w' : World) : Prop := ∃ A c A2 c2 l h, e = .returned (.agg #[.slice A l.length c, .slice A2 h.length c2]) ∧ TbOk l h ∧ Nw w.heap.size A ∧ Nw w.heap.size A2 ∧ El w' w'.heap.size (.slice A l.length c) l ∧ Dl w' w'.heap.size (.slice A2 h.length c2) h ∧ SrcAt w' B g ∧ w.grownBy w' (some g)
/-- The work of Table. -/
structure TaAt (w : World) (B g r y : Nat) (A : Option Addr) (c : Nat) (l : List Le) (A2 : Option Addr) (c2 : Nat) (h : List Du) (W : World) : Prop where
  rs : RT W r none 0 0 none 0 0
  rb : RT W y A l.length c A2 h.length c2
  el : El W W.heap.size (.slice A l.length c) l
  dl : Dl W W.heap.size (.slice A2 h.length c2) h
  src : SrcAt W B g
  grow : w.grownBy W (some g)
  nw : Nw (y + 1) A ∧ Nw (y + 1) A2
  ne : g < w.heap.size ∧ w.heap.size ≤ r ∧ r < y
section
variable {w W W' : World} {B g r y c c2 : Nat} {A A2 : Option Addr} {l : List Le} {h : List Du}
theorem TaAt.grownG (k : TaAt w B g r y A c l A2 c2 h W) (hs : SrcAt W' B g) (hg : W.grownBy W' (some g)) : TaAt w B g r y A c l A2 c2 h W' :=
  ⟨k.rs.grownG hg (by have := k.ne; omega), k.rb.grownG hg (by have := k.ne; omega), k.el.grownG k.nw.1 (by have := k.ne; omega) hg, k.dl.grownT k.nw.2 (by have := k.ne; omega) hg, hs, k.grow.trans hg, k.nw, k.ne⟩
theorem TaAt.below (k : TaAt w B g r y A c l A2 c2 h W) (hb : Below W.heap.size W W') : TaAt w B g r y A c l A2 c2 h W' :=
  ⟨k.rs.below hb k.rs.lt, k.rb.below hb k.rb.lt, k.el.up hb, k.dl.up hb, k.src.below hb, only_below k.grow hb, k.nw, k.ne⟩
theorem TaAt.drew (k : TaAt w B g r y A c l A2 c2 h W) : TaAt w B g r y A c l A2 c2 h W.drew := k.below ((Below.refl _ _).drew)
theorem TaAt.store {A5 A6 : Option Addr} {c5 c6 : Nat} {l5 : List Le} {h5 : List Du} (k : TaAt w B g r y A c l A2 c2 h W) (n5 : Nw W.heap.size A5) (n6 : Nw W.heap.size A6) (hb : Below W.heap.size W W') (h1 : El W' W'.heap.size (.slice A5 l5.length c5) l5) (h2 : Dl W' W'.heap.size (.slice A6 h5.length c6) h5) :
    TaAt w B g r y A5 c5 l5 A6 c6 h5 (set2 W' y (.slice A5 l5.length c5) (.slice A6 h5.length c6)) := by
  have k' := k.below hb
  have hy := k.rb.lt
  have hne := k.ne
  refine ⟨k'.rs.far (by omega) _ _, k'.rb.put _ _ _ _ _ _, (h1.set2 n5 hy).more (by simp), (h2.set2 n6 hy).more (by simp), ?_, ?_, ⟨nw_low n5 hy, nw_low n6 hy⟩, hne⟩
  · have hB : B ≤ g := k.src.1
    exact (k'.src.other (p := ⟨y, 0, none⟩) (show y ≠ g by omega) (show B ≤ y by omega) _).other (p := ⟨y, 1, none⟩) (show y ≠ g by omega) (show B ≤ y by omega) _
  · exact only_set (only_set k'.grow (p := ⟨y, 0, none⟩) (.inr (show w.heap.size ≤ y by omega)) _) (p := ⟨y, 1, none⟩) (.inr (show w.heap.size ≤ y by omega)) _
end

theorem RMs.grownG {W W' : World} {g r : Nat} {M : Msg} (h : RMs W r M) (hg : W.grownBy W' (some g)) (hne : r ≠ g) : RMs W' r M :=
  have hl := h.lt
  have c : ∀ o, W'.cell? ⟨r, o, none⟩ = W.cell? ⟨r, o, none⟩ := fun o => hg.cell_far ⟨r, o, none⟩ hl (fun e => hne (by injection e))
  have f : ∀ o, W'.frozen? ⟨r, o, none⟩ = W.frozen? ⟨r, o, none⟩ := fun o => hg.frozen_far ⟨r, o, none⟩ hl (fun e => hne (by injection e))
  ⟨(c 0).trans h.1, (c 1).trans h.2.1, (c 2).trans h.2.2.1, (c 3).trans h.2.2.2.1, (c 4).trans h.2.2.2.2.1, (c 5).trans h.2.2.2.2.2.1, (c 6).trans h.2.2.2.2.2.2.1, (f 0).trans h.2.2.2.2.2.2.2.1, (f 1).trans h.2.2.2.2.2.2.2.2.1, (f 2).trans h.2.2.2.2.2.2.2.2.2.1, (f 3).trans h.2.2.2.2.2.2.2.2.2.2.1, (f 4).trans h.2.2.2.2.2.2.2.2.2.2.2.1, (f 5).trans h.2.2.2.2.2.2.2.2.2.2.2.2.1, (f 6).trans h.2.2.2.2.2.2.2.2.2.2.2.2.2.1, Nat.lt_of_lt_of_le hl hg.size⟩
set_option maxHeartbeats 8000000 in
set_option maxRecDepth 20000 in
theorem table_any (B g : Nat) (w : World) (h : SrcAt w B g) (n id lo hi : Int) (n0 : 0 ≤ n) (n1 : n ≤ 12) (i1 : 1 ≤ id) (i2 : id ≤ 1000000) :
    Calls Tryz.prog 8 #[.pointer (some ⟨g, 0, none⟩), .int .i64 n, .int .i64 id, .int .i64 lo, .int .i64 hi] w (SrTable B g w) := by
  have H := Lib.hid h
  have HGW := Lib.hid (show g < w.heap.size from h.2.1)
  have k1 := RT.start w none 0 0 none 0 0 25
  have k2 := RT.start (w.alloc (.cells #[.slice none 0 0, .slice none 0 0] 25)) none 0 0 none 0 0 25
  rw [show (w.alloc (.cells #[.slice none 0 0, .slice none 0 0] 25)).heap.size = w.heap.size + 1 by simp] at k2
  have HT0 := Lib.hid (show TaAt w B g w.heap.size (w.heap.size + 1) none 0 [] none 0 [] ((w.alloc (.cells #[.slice none 0 0, .slice none 0 0] 25)).alloc (.cells #[.slice none 0 0, .slice none 0 0] 25)) from
    ⟨k1.below ((Below.refl _ _).alloc (Nat.le_refl _) _) k1.lt, k2, El.nil, Dl.nil, (h.alloc _).alloc _, only_alloc (only_alloc (World.grownBy.refl w (some g)) _) _, ⟨nw_none, nw_none⟩, h.2.1, Nat.le_refl _, Nat.lt_succ_self _⟩)
  clear h k1 k2
  go_enter Tryz.func8, Tryz.ntmps8
  go_wp2_with fail
  obtain ⟨r, hr⟩ : ∃ r, r = w.heap.size := ⟨_, rfl⟩
  obtain ⟨y, hy⟩ : ∃ y, y = w.heap.size + 1 := ⟨_, rfl⟩
  rw [← hy, ← hr] at HT0 ⊢
  clear hr hy
  generalize ((w.alloc (.cells #[.slice none 0 0, .slice none 0 0] 25)).alloc (.cells #[.slice none 0 0, .slice none 0 0] 25)) = w1 at *
  refine (n_any B g _ HT0.out.src (n + 1) (by omega) (by omega)).mono ?_
  rintro e w2 ⟨j, rfl, j0, j1, hs, hg⟩
  obtain ⟨j, rfl⟩ := Int.eq_ofNat_of_zero_le j0
  have HT1 := Lib.hid (HT0.out.grownG hs hg)
  clear hs hg j0
  go_wp2
  go_loopw [2, 12] (fun idv iv wr => ∃ (j : Nat) (x : Int) (A : Option Addr) (c : Nat) (l : List Le) (A2 : Option Addr) (c2 : Nat) (h : List Du), iv = .int .i64 j ∧ idv = .int .i64 x ∧ (j : Int) ≤ n ∧ 1 ≤ x ∧ x + 3 * (j : Int) ≤ 1000036 ∧ Hid (TaAt w B g r y A c l A2 c2 h wr) ∧ Hid (TbOk l h)) (fun _ iv _ => (intOf iv).toNat)
  case atStart => exact ⟨j, id, none, 0, [], none, 0, [], rfl, rfl, by omega, i1, by omega, HT1, Lib.hid TbOk.nil⟩
  case round =>
    clear HT0 HT1
    obtain ⟨j, x, A, c, l, A2, c2, h, rfl, rfl, hj, x1, x2, HT, HOK⟩ := hrel
    by_cases hj0 : 0 < j
    · have hj0' : (0 : Int) < (j : Int) := by omega
      go_wp2_with fail
      refine (message_any B g _ HT.out.src x lo hi).mono ?_
      rintro e w3 ⟨M, rfl, -, -, -, -, -, -, -, hs, hg⟩
      have HT3 := Lib.hid (HT.out.grownG hs hg)
      clear hs hg
      go_wp2
      obtain ⟨N, hN⟩ : ∃ N : Msg, N = ⟨M.id, M.rt, M.ep, M.ct, max M.gn 1, M.st, M.bd⟩ := ⟨_, rfl⟩
      have HZ0 := Lib.hid (RMs.start w3 N 27)
      have HT4 := Lib.hid (HT3.out.below ((Below.refl w3.heap.size w3).alloc (Nat.le_refl _) (.cells #[.int .i64 N.id, .int .i64 N.rt, .int .i64 N.ep, .int .i64 N.ct, .int .i64 N.gn, .int .i64 N.st, .string N.bd] 27)))
      rw [show M.id = N.id by rw [hN], show M.rt = N.rt by rw [hN], show M.ep = N.ep by rw [hN], show M.ct = N.ct by rw [hN], show max M.gn 1 = N.gn by rw [hN], show M.st = N.st by rw [hN], show M.bd = N.bd by rw [hN]]
      obtain ⟨z, hz⟩ : ∃ z, z = w3.heap.size := ⟨_, rfl⟩
      have HZG := Lib.hid (show z ≠ g by have := HT3.out.src.2.1; omega)
      rw [← hz] at HZ0 ⊢
      clear hz hN HT HT3
      generalize w3.alloc (.cells #[.int .i64 N.id, .int .i64 N.rt, .int .i64 N.ep, .int .i64 N.ct, .int .i64 N.gn, .int .i64 N.st, .string N.bd] 27) = w4 at *
      obtain ⟨z0, z1, z2, z3, z4, z5, z6, -, -, -, -, -, -, -, zl⟩ := HZ0.out
      obtain ⟨y0, y1, yf0, yf1, yl⟩ := HT4.out.rb
      go_region_with
        (first
        | (go_at_call 12; (with_reducible refine (n_any B g _ HT4.out.drew.src 30 (by omega) (by omega)).mono ?_); rintro e w5 ⟨xx, rfl, -, -, hs, hg⟩; have HT5 := Lib.hid (HT4.out.drew.grownG hs hg); obtain ⟨q0, q1, q2, q3, q4, q5, q6, -, -, -, -, -, -, -, ql⟩ := RMs.grownG (W := w4.drew) HZ0.out hg HZG.out; obtain ⟨p0, p1, pf0, pf1, pl⟩ := HT5.out.rb; have HGR := Lib.hid (rtgrant_any A l.length c l A2 h.length c2 h ⟨N, xx⟩ w5 HT5.out.el HT5.out.dl); have HOK5 := Lib.hid (tb_gr HOK.out ⟨N, xx⟩); clear hs hg)
        | (go_at_call 22; (with_reducible refine HGR.out.mono ?_); rintro e w6 ⟨A6, c6, A7, c7, rfl, n6, n7, h6, h7, hb⟩; have HT6 := Lib.hid (HT5.out.store n6 n7 hb h6 h7); obtain ⟨s0, s1, sf0, sf1, sl⟩ := (HT5.out.below hb).rb; clear n6 n7 h6 h7 hb))
      all_goals
        clear z0 z1 z2 z3 z4 z5 z6 zl y0 y1 yf0 yf1 yl q0 q1 q2 q3 q4 q5 q6 ql p0 p1 pf0 pf1 pl s0 s1 sf0 sf1 sl
        go_wp2_with fail
        refine (range_any B g _ HT6.out.src 1 3 (by omega) (by omega) (by omega)).mono ?_
        rintro e w7 ⟨d, rfl, d1, d2, hs, hg⟩
        have HT7 := Lib.hid (HT6.out.grownG hs hg)
        clear hs hg
        go_wp2
        go_roundw
        case rel => exact ⟨j - 1, x + d, A6, c6, _, A7, c7, _, by rw [show ((j - 1 : Nat) : Int) = (j : Int) - 1 by omega], rfl, by omega, by omega, by omega, HT7, HOK5⟩
        case measure => simp [intOf]; omega
    · obtain rfl : j = 0 := by omega
      obtain ⟨y0, y1, yf0, yf1, yl⟩ := HT.out.rb
      obtain ⟨r0, r1, rf0, rf1, rl⟩ := HT.out.rs
      have hyr : ¬ y = r := by have := HT.out.ne; omega
      have hry : ¬ r = y := fun e => hyr e.symm
      have HF := Lib.hid (show SrTable B g w (.returned (.agg #[.slice A l.length c, .slice A2 h.length c2])) (set2 wr r (.slice A l.length c) (.slice A2 h.length c2)) from by
        have hne := HT.out.ne
        have hB := HT.out.src.1
        exact ⟨A, c, A2, c2, l, h, rfl, HOK.out, nw_low HT.out.nw.1 (by omega), nw_low HT.out.nw.2 (by omega), (HT.out.el.set2 HT.out.nw.1 (by omega)).more (by simp), (HT.out.dl.set2 HT.out.nw.2 (by omega)).more (by simp),
          (HT.out.src.other (p := ⟨r, 0, none⟩) (show r ≠ g by omega) (show B ≤ r by omega) _).other (p := ⟨r, 1, none⟩) (show r ≠ g by omega) (show B ≤ r by omega) _,
          only_set (only_set HT.out.grow (p := ⟨r, 0, none⟩) (.inr (show w.heap.size ≤ r by omega)) _) (p := ⟨r, 1, none⟩) (.inr (show w.heap.size ≤ r by omega)) _⟩)
      go_wp2
      exact bodyPost_ret (v := .agg #[.slice A l.length c, .slice A2 h.length c2]) (by simp only [results, Tryz.results8]; go_simp <;> rfl) rfl HF.out
end Go.Proofs.YtjclhlejbidpgaaGreat
namespace Go.Proofs.YtjclhlejbidpgaaGreat
open Go.RowKit
set_option linter.unusedVariables false

/-- The table and the message of a statement. -/
structure Ag6 (w : World) (p q : Nat) (A : Option Addr) (c : Nat) (l : List Le) (A2 : Option Addr) (c2 : Nat) (h : List Du) (M : Msg) (W : World) : Prop where
  va : VaA w p A c l A2 c2 h W
  mq : RMs W q M
  ne : w.heap.size ≤ p ∧ p < q
/-- A table with its lists in a box that may be written; the lists lie behind block lo. -/
structure Tb6 (lo a : Nat) (D : Option Addr) (d : Nat) (l : List Le) (D2 : Option Addr) (d2 : Nat) (h : List Du) (W : World) : Prop where
  rt : RT W a D l.length d D2 h.length d2
  el : El W W.heap.size (.slice D l.length d) l
  dl : Dl W W.heap.size (.slice D2 h.length d2) h
  nw : Nw lo D ∧ Nw lo D2
section
variable {w W W' : World} {p q c c2 lo lo' a d d2 : Nat} {A A2 D D2 : Option Addr} {l l' : List Le} {h h' : List Du} {M : Msg}
theorem Ag6.below (k : Ag6 w p q A c l A2 c2 h M W) (hb : Below W.heap.size W W') : Ag6 w p q A c l A2 c2 h M W' := ⟨k.va.below hb, k.mq.below hb k.mq.lt, k.ne⟩
theorem Ag6.alloc (k : Ag6 w p q A c l A2 c2 h M W) (o : Obj) : Ag6 w p q A c l A2 c2 h M (W.alloc o) := k.below ((Below.refl _ _).alloc (Nat.le_refl _) o)
theorem Tb6.below (k : Tb6 lo a D d l D2 d2 h W) (hb : Below W.heap.size W W') : Tb6 lo a D d l D2 d2 h W' := ⟨k.rt.below hb k.rt.lt, k.el.up hb, k.dl.up hb, k.nw⟩
theorem Tb6.alloc (k : Tb6 lo a D d l D2 d2 h W) (o : Obj) : Tb6 lo a D d l D2 d2 h (W.alloc o) := k.below ((Below.refl _ _).alloc (Nat.le_refl _) o)
theorem Tb6.start (hE : El W W.heap.size (.slice D l.length d) l) (hD : Dl W W.heap.size (.slice D2 h.length d2) h) (hn : Nw lo D) (hn2 : Nw lo D2) (t : TypeId) : Tb6 lo W.heap.size D d l D2 d2 h (W.alloc (.cells #[.slice D l.length d, .slice D2 h.length d2] t)) :=
  have hb := (Below.refl W.heap.size W).alloc (Nat.le_refl _) (.cells #[.slice D l.length d, .slice D2 h.length d2] t)
  ⟨RT.start W _ _ _ _ _ _ t, hE.up hb, hD.up hb, ⟨hn, hn2⟩⟩
theorem Tb6.put {E E2 : Option Addr} {e e2 : Nat} (k : RT W a E l'.length e E2 h'.length e2) (hE : El W W.heap.size (.slice D l.length d) l) (hD : Dl W W.heap.size (.slice D2 h.length d2) h) (hn : Nw lo D) (hn2 : Nw lo D2) (ha : a < lo) : Tb6 lo a D d l D2 d2 h (set2 W a (.slice D l.length d) (.slice D2 h.length d2)) :=
  ⟨k.put _ _ _ _ _ _, (hE.set2 hn ha).more (by simp), (hD.set2 hn2 ha).more (by simp), ⟨hn, hn2⟩⟩
theorem Tb6.far {b : Nat} (k : Tb6 lo a D d l D2 d2 h W) (hb : b < lo) (hab : a ≠ b) (v v2 : Value) : Tb6 lo a D d l D2 d2 h (set2 W b v v2) :=
  ⟨k.rt.far hab v v2, (k.el.set2 k.nw.1 hb).more (by simp), (k.dl.set2 k.nw.2 hb).more (by simp), k.nw⟩
theorem Ag6.far {b : Nat} (k : Ag6 w p q A c l A2 c2 h M W) (hv : El w w.heap.size (.slice A l.length c) l) (hd : Dl w w.heap.size (.slice A2 h.length c2) h) (hb : q < b) (v v2 : Value) : Ag6 w p q A c l A2 c2 h M (set2 W b v v2) := by
  have hne := k.ne
  have hbel : Below w.heap.size w (set2 W b v v2) := set2_below k.va.bel (by omega)
  obtain ⟨h0, h1, h2, h3, h4, h5, h6, g0, g1, g2, g3, g4, g5, g6, hl⟩ := k.mq
  have hqb : q ≠ b := by omega
  have hpb : p ≠ b := by omega
  exact ⟨⟨⟨(set2_far hpb).trans k.va.tb.1, (set2_far hpb).trans k.va.tb.2.1, by rw [set2_size]; exact k.va.tb.2.2⟩, hv.up hbel, hd.up hbel, hbel⟩, ⟨(set2_far hqb).trans h0, (set2_far hqb).trans h1, (set2_far hqb).trans h2, (set2_far hqb).trans h3, (set2_far hqb).trans h4, (set2_far hqb).trans h5, (set2_far hqb).trans h6, set2_frozen.trans g0, set2_frozen.trans g1, set2_frozen.trans g2, set2_frozen.trans g3, set2_frozen.trans g4, set2_frozen.trans g5, set2_frozen.trans g6, by rw [set2_size]; exact hl⟩, hne⟩
theorem El8.far {b z : Nat} {X : Le} (k : El8 W z X) (hb : z ≠ b) (v v2 : Value) : El8 (set2 W b v v2) z X := by
  obtain ⟨h0, h1, h2, h3, h4, h5, h6, h7, hl⟩ := k
  exact ⟨(set2_far hb).trans h0, (set2_far hb).trans h1, (set2_far hb).trans h2, (set2_far hb).trans h3, (set2_far hb).trans h4, (set2_far hb).trans h5, (set2_far hb).trans h6, (set2_far hb).trans h7, by rw [set2_size]; exact hl⟩
theorem RMs.far {b z : Nat} (k : RMs W z M) (hb : z ≠ b) (v v2 : Value) : RMs (set2 W b v v2) z M := by
  obtain ⟨h0, h1, h2, h3, h4, h5, h6, g0, g1, g2, g3, g4, g5, g6, hl⟩ := k
  exact ⟨(set2_far hb).trans h0, (set2_far hb).trans h1, (set2_far hb).trans h2, (set2_far hb).trans h3, (set2_far hb).trans h4, (set2_far hb).trans h5, (set2_far hb).trans h6, set2_frozen.trans g0, set2_frozen.trans g1, set2_frozen.trans g2, set2_frozen.trans g3, set2_frozen.trans g4, set2_frozen.trans g5, set2_frozen.trans g6, by rw [set2_size]; exact hl⟩
end
set_option maxHeartbeats 32000000 in
set_option maxRecDepth 20000 in
theorem agrees6_any (A : Option Addr) (n c : Nat) (l : List Le) (A2 : Option Addr) (n2 c2 : Nat) (h : List Du) (M : Msg) (id dl now ep : Int) (w : World) (hv : El w w.heap.size (.slice A n c) l) (hd : Dl w w.heap.size (.slice A2 n2 c2) h) :
    Calls Tryz.prog 5 #[tv A n c A2 n2 c2, M.v, .int .i64 id, .int .i64 dl, .int .i64 now, .int .i64 ep] w fun e w' => e = .returned (.bool true) ∧ Below w.heap.size w w' := by
  obtain ⟨rfl, hm1, hm2⟩ := hv.len
  obtain ⟨rfl, hm3, hm4⟩ := hd.len
  have HW := Lib.hid (And.intro hv hd)
  have k2 := RMs.start (w.alloc (.cells #[.slice A l.length c, .slice A2 h.length c2] 25)) M 27
  rw [show (w.alloc (.cells #[.slice A l.length c, .slice A2 h.length c2] 25)).heap.size = w.heap.size + 1 by simp] at k2
  have H0 := Lib.hid (show Ag6 w w.heap.size (w.heap.size + 1) A c l A2 c2 h M ((w.alloc (.cells #[.slice A l.length c, .slice A2 h.length c2] 25)).alloc (.cells #[.int .i64 M.id, .int .i64 M.rt, .int .i64 M.ep, .int .i64 M.ct, .int .i64 M.gn, .int .i64 M.st, .string M.bd] 27)) from ⟨(VaA.start 25 hv hd).alloc _, k2, Nat.le_refl _, Nat.lt_succ_self _⟩)
  have C1 := Lib.hid (fun p W (k : VaA w p A c l A2 c2 h W) => lvalid_any A l.length c l A2 h.length c2 h W k.el k.dl)
  have C2 := Lib.hid (fun p W (k : VaA w p A c l A2 c2 h W) => rtvalid_any A l.length c l A2 h.length c2 h W k.el k.dl)
  have C3 := Lib.hid (fun p W (k : VaA w p A c l A2 c2 h W) => llapsed_any A l.length c l A2 h.length c2 h now ep W k.el k.dl)
  have C4 := Lib.hid (fun p W (k : VaA w p A c l A2 c2 h W) => rtlapsed_any A l.length c l A2 h.length c2 h now ep W k.el k.dl)
  have C5 := Lib.hid (fun A A' n n' c c' U W B B' h h' => rsamei_yes A A' n n' c c' U W B B' h h')
  have C6 := Lib.hid (fun p W (k : VaA w p A c l A2 c2 h W) => lfind_any A l.length c l A2 h.length c2 h id W k.el k.dl)
  have C7 := Lib.hid (fun p W (k : VaA w p A c l A2 c2 h W) => rtFind_any A l.length c l A2 h.length c2 h id W k.el k.dl)
  have C8 := Lib.hid (fun p W (k : VaA w p A c l A2 c2 h W) => lgrant_any A l.length c l A2 h.length c2 h ⟨M, dl⟩ W k.el k.dl)
  have C9 := Lib.hid (fun p W (k : VaA w p A c l A2 c2 h W) => rtgrant_any A l.length c l A2 h.length c2 h ⟨M, dl⟩ W k.el k.dl)
  have C10 := Lib.hid (fun lo lo' a b D d l D2 d2 h E e E2 e2 W (k : Tb6 lo a D d l D2 d2 h W) (k' : Tb6 lo' b E e l E2 e2 h W) => rtsame_yes D E l.length l.length d e l D2 E2 h.length h.length d2 e2 h W k.el k'.el k.dl k'.dl)
  have C11 := Lib.hid (fun p W (k : VaA w p A c l A2 c2 h W) => lrelease_any A l.length c l A2 h.length c2 h id W k.el k.dl)
  have C12 := Lib.hid (fun p W (k : VaA w p A c l A2 c2 h W) => rtrelease_any A l.length c l A2 h.length c2 h id W k.el k.dl)
  have C13 := Lib.hid (fun p W (k : VaA w p A c l A2 c2 h W) => lextend_any A l.length c l A2 h.length c2 h id dl W k.el k.dl)
  have C14 := Lib.hid (fun p W (k : VaA w p A c l A2 c2 h W) => rtextend_any A l.length c l A2 h.length c2 h id dl W k.el k.dl)
  generalize tbV l h = x0 at *
  generalize laV l h now ep = U at *
  generalize fnX l h id = X at *
  generalize fnO l h id = O at *
  generalize grE l h ⟨M, dl⟩ = x1 at *
  generalize grL l h ⟨M, dl⟩ = L1 at *
  generalize grH l h ⟨M, dl⟩ = K1 at *
  generalize rlE l h id = x2 at *
  generalize rlL l h id = L2 at *
  generalize rlH l h id = K2 at *
  generalize rlM l h id = N2 at *
  generalize exE l h id dl = x3 at *
  generalize exL l h id dl = L3 at *
  generalize exH l h id dl = K3 at *
  have q0 : (x0 != x0) = false := by simp
  have q1 : (x1 != x1) = false := by simp
  have q2 : (x2 != x2) = false := by simp
  have q3 : (x3 == x3) = true := by simp
  have qO : (O != O) = false := by simp
  have hneql := neql X
  have hneqm := neqm N2
  clear hv hd k2 hm1 hm2 hm3 hm4
  go_enter Tryz.func5, Tryz.ntmps5
  go_wp2_with fail
  obtain ⟨p, hp⟩ : ∃ p, p = w.heap.size := ⟨_, rfl⟩
  obtain ⟨q, hq⟩ : ∃ q, q = w.heap.size + 1 := ⟨_, rfl⟩
  rw [← hq, ← hp] at H0 ⊢
  clear hp hq
  generalize ((w.alloc (.cells #[.slice A l.length c, .slice A2 h.length c2] 25)).alloc (.cells #[.int .i64 M.id, .int .i64 M.rt, .int .i64 M.ep, .int .i64 M.ct, .int .i64 M.gn, .int .i64 M.st, .string M.bd] 27)) = w1 at *
  have HSK := Lib.hid (fun W (k : Ag6 w p q A c l A2 c2 h M W) => show W.cell? ⟨p, 0, none⟩ = some (.slice A l.length c) ∧ W.cell? ⟨p, 1, none⟩ = some (.slice A2 h.length c2) from ⟨k.va.tb.1, k.va.tb.2.1⟩)
  have HD0 := Lib.hid (show Ag6 w p q A c l A2 c2 h M w1.drew from H0.out.below (Below.refl _ _).drew)
  have HT0 := Lib.hid (HSK.out _ HD0.out)
  go_region_held3 (fun W => W.cell? ⟨p, 0, none⟩ = some (.slice A l.length c) ∧ W.cell? ⟨p, 1, none⟩ = some (.slice A2 h.length c2))
    (first | with_reducible exact HT0.out | with_reducible exact HT1.out | with_reducible exact HT2.out | with_reducible exact HT3.out | with_reducible exact HT4.out | with_reducible exact HT5.out)
    (first
    | (go_at_call 16; (with_reducible refine (C5.out _ _ _ _ _ _ _ _ _ _ N34.out N4.out).mono ?_); rintro e w6 ⟨rfl, hb⟩; have H5 := Lib.hid (H4.out.below hb); have HT5 := Lib.hid (HSK.out _ H5.out); clear hb)
    | (go_at_call 18; (with_reducible refine (C4.out _ _ H3.out.va).mono ?_); rintro e w5 ⟨A4, c4, rfl, hn, hb⟩; have H4 := Lib.hid (H3.out.below hb); have N34 := Lib.hid (N3.out.up hb); have N4 := Lib.hid hn; have HT4 := Lib.hid (HSK.out _ H4.out); clear hn hb)
    | (go_at_call 17; (with_reducible refine (C3.out _ _ H2.out.va).mono ?_); rintro e w4 ⟨A3, c3, rfl, hn, hb⟩; have H3 := Lib.hid (H2.out.below hb); have N3 := Lib.hid hn; have HT3 := Lib.hid (HSK.out _ H3.out); clear hn hb)
    | (go_at_call 15; (with_reducible refine (C2.out _ _ H1.out.va).mono ?_); rintro e w3 ⟨rfl, hb⟩; have H2 := Lib.hid (H1.out.below hb); have HT2 := Lib.hid (HSK.out _ H2.out); clear hb)
    | (go_at_call 14; (with_reducible refine (C1.out _ _ HD0.out.va).mono ?_); rintro e w2 ⟨rfl, hb⟩; have H1 := Lib.hid (HD0.out.below hb); have HT1 := Lib.hid (HSK.out _ H1.out); clear hb))
  obtain ⟨t0, t1, tl⟩ := H5.out.va.tb
  go_wp2_with fail
  clear t0 t1 tl
  refine (C6.out _ _ H5.out.va).mono ?_
  rintro e w7 ⟨rfl, hb⟩
  have H7 := Lib.hid (H5.out.below hb)
  have H8 := Lib.hid (H7.out.alloc (.cells #[.int .i64 X.m.id, .int .i64 X.m.rt, .int .i64 X.m.ep, .int .i64 X.m.ct, .int .i64 X.m.gn, .int .i64 X.m.st, .string X.m.bd, .int .i64 X.dl] 39))
  have E8 := Lib.hid (El8.start w7 X 39)
  clear hb
  obtain ⟨t0, t1, tl⟩ := H8.out.va.tb
  go_wp2_with fail
  clear t0 t1 tl
  obtain ⟨z1, hz1⟩ : ∃ z1, z1 = w7.heap.size := ⟨_, rfl⟩
  rw [← hz1] at E8 ⊢
  clear hz1
  generalize w7.alloc (.cells #[.int .i64 X.m.id, .int .i64 X.m.rt, .int .i64 X.m.ep, .int .i64 X.m.ct, .int .i64 X.m.gn, .int .i64 X.m.st, .string X.m.bd, .int .i64 X.dl] 39) = w8 at *
  refine (C7.out _ _ H8.out.va).mono ?_
  rintro e w9 ⟨rfl, hb⟩
  have H9 := Lib.hid (H8.out.below hb)
  have E9 := Lib.hid (E8.out.below hb E8.out.lt)
  have H10 := Lib.hid (H9.out.alloc (.cells #[.int .i64 X.m.id, .int .i64 X.m.rt, .int .i64 X.m.ep, .int .i64 X.m.ct, .int .i64 X.m.gn, .int .i64 X.m.st, .string X.m.bd, .int .i64 X.dl] 39))
  have F10 := Lib.hid (El8.start w9 X 39)
  have E10 := Lib.hid (E9.out.below ((Below.refl w9.heap.size w9).alloc (Nat.le_refl _) (.cells #[.int .i64 X.m.id, .int .i64 X.m.rt, .int .i64 X.m.ep, .int .i64 X.m.ct, .int .i64 X.m.gn, .int .i64 X.m.st, .string X.m.bd, .int .i64 X.dl] 39)) E9.out.lt)
  clear hb
  obtain ⟨t0, t1, tl⟩ := H10.out.va.tb
  obtain ⟨m0, m1, m2, m3, m4, m5, m6, -, -, -, -, -, -, -, ml⟩ := H10.out.mq
  obtain ⟨x00, x01, x02, x03, x04, x05, x06, x07, xl0⟩ := E10.out
  obtain ⟨y00, y01, y02, y03, y04, y05, y06, y07, yl0⟩ := F10.out
  go_wp2_with fail
  clear t0 t1 tl m0 m1 m2 m3 m4 m5 m6 ml x00 x01 x02 x03 x04 x05 x06 x07 xl0 y00 y01 y02 y03 y04 y05 y06 y07 yl0
  obtain ⟨z2, hz2⟩ : ∃ z2, z2 = w9.heap.size := ⟨_, rfl⟩
  rw [← hz2] at F10 ⊢
  clear hz2
  generalize w9.alloc (.cells #[.int .i64 X.m.id, .int .i64 X.m.rt, .int .i64 X.m.ep, .int .i64 X.m.ct, .int .i64 X.m.gn, .int .i64 X.m.st, .string X.m.bd, .int .i64 X.dl] 39) = w10 at *
  refine (C8.out _ _ H10.out.va).mono ?_
  rintro e w11 ⟨A5, c5, A6, c6, rfl, n5, n6, h5, h6, hb⟩
  have H11 := Lib.hid (H10.out.below hb)
  have H12 := Lib.hid (H11.out.alloc (.cells #[.slice A5 L1.length c5, .slice A6 K1.length c6] 25))
  have T12 := Lib.hid (Tb6.start h5 h6 n5 n6 25)
  clear hb n5 n6 h5 h6
  obtain ⟨t0, t1, tl⟩ := H12.out.va.tb
  obtain ⟨m0, m1, m2, m3, m4, m5, m6, -, -, -, -, -, -, -, ml⟩ := H12.out.mq
  go_wp2_with fail
  clear t0 t1 tl m0 m1 m2 m3 m4 m5 m6 ml
  obtain ⟨a, ha⟩ : ∃ a, a = w11.heap.size := ⟨_, rfl⟩
  have HQA := Lib.hid (show q < a by have := H11.out.mq.lt; omega)
  rw [← ha] at T12 ⊢
  clear ha
  generalize w11.alloc (.cells #[.slice A5 L1.length c5, .slice A6 K1.length c6] 25) = w12 at *
  refine (C9.out _ _ H12.out.va).mono ?_
  rintro e w13 ⟨A7, c7, A8, c8, rfl, n7, n8, h7, h8, hb⟩
  have H13 := Lib.hid (H12.out.below hb)
  have T13 := Lib.hid (T12.out.below hb)
  have H14 := Lib.hid (H13.out.alloc (.cells #[.slice A7 L1.length c7, .slice A8 K1.length c8] 25))
  have T14 := Lib.hid (T13.out.alloc (.cells #[.slice A7 L1.length c7, .slice A8 K1.length c8] 25))
  have S14 := Lib.hid (Tb6.start h7 h8 n7 n8 25)
  clear hb n7 n8 h7 h8
  obtain ⟨a0, a1, af0, af1, al⟩ := T14.out.rt
  obtain ⟨b0, b1, bf0, bf1, bl⟩ := S14.out.rt
  go_wp2_with fail
  clear a0 a1 af0 af1 al b0 b1 bf0 bf1 bl
  obtain ⟨b, hb⟩ : ∃ b, b = w13.heap.size := ⟨_, rfl⟩
  have HAB := Lib.hid (show a < b by have := T13.out.rt.lt; omega)
  rw [← hb] at S14 ⊢
  clear hb
  generalize w13.alloc (.cells #[.slice A7 L1.length c7, .slice A8 K1.length c8] 25) = w14 at *
  refine (C10.out _ _ _ _ _ _ _ _ _ _ _ _ _ _ _ T14.out S14.out).mono ?_
  rintro e w15 ⟨rfl, hb⟩
  have H15 := Lib.hid (H14.out.below hb)
  have T15 := Lib.hid (T14.out.below hb)
  have S15 := Lib.hid (S14.out.below hb)
  clear hb
  obtain ⟨t0, t1, tl⟩ := H15.out.va.tb
  go_wp2_with fail
  clear t0 t1 tl
  refine (C11.out _ _ H15.out.va).mono ?_
  rintro e w16 ⟨A9, c9, A10, c10, rfl, n9, n10, h9, h10, hb⟩
  have H16 := Lib.hid (H15.out.below hb)
  have T16 := Lib.hid (T15.out.below hb)
  have S16 := Lib.hid (S15.out.below hb)
  have H18 := Lib.hid ((H16.out.far HW.out.1 HW.out.2 HQA.out (.slice A9 L2.length c9) (.slice A10 K2.length c10)).alloc (.cells #[.int .i64 N2.id, .int .i64 N2.rt, .int .i64 N2.ep, .int .i64 N2.ct, .int .i64 N2.gn, .int .i64 N2.st, .string N2.bd] 27))
  have T18 := Lib.hid ((Tb6.put T16.out.rt h9 h10 n9 n10 T15.out.rt.lt).alloc (.cells #[.int .i64 N2.id, .int .i64 N2.rt, .int .i64 N2.ep, .int .i64 N2.ct, .int .i64 N2.gn, .int .i64 N2.st, .string N2.bd] 27))
  have R18 := Lib.hid ((S16.out.rt.far (show b ≠ a by have := HAB.out; omega) (.slice A9 L2.length c9) (.slice A10 K2.length c10)).below ((Below.refl _ _).alloc (Nat.le_refl _) (.cells #[.int .i64 N2.id, .int .i64 N2.rt, .int .i64 N2.ep, .int .i64 N2.ct, .int .i64 N2.gn, .int .i64 N2.st, .string N2.bd] 27)) (by rw [set2_size]; exact S16.out.rt.lt))
  have M18 := Lib.hid (show RMs ((set2 w16 a (.slice A9 L2.length c9) (.slice A10 K2.length c10)).alloc (.cells #[.int .i64 N2.id, .int .i64 N2.rt, .int .i64 N2.ep, .int .i64 N2.ct, .int .i64 N2.gn, .int .i64 N2.st, .string N2.bd] 27)) w16.heap.size N2 from by have := RMs.start (set2 w16 a (.slice A9 L2.length c9) (.slice A10 K2.length c10)) N2 27; rwa [set2_size] at this)
  clear hb n9 n10 h9 h10
  obtain ⟨a0, a1, af0, af1, al⟩ := T16.out.rt
  obtain ⟨t0, t1, tl⟩ := H18.out.va.tb
  go_wp2_with fail
  clear t0 t1 tl a0 a1 af0 af1 al
  obtain ⟨z3, hz3⟩ : ∃ z3, z3 = w16.heap.size := ⟨_, rfl⟩
  have HZB := Lib.hid (show b < z3 by have := S16.out.rt.lt; omega)
  rw [← hz3] at M18 ⊢
  clear hz3
  generalize (set2 w16 a (.slice A9 L2.length c9) (.slice A10 K2.length c10)).alloc (.cells #[.int .i64 N2.id, .int .i64 N2.rt, .int .i64 N2.ep, .int .i64 N2.ct, .int .i64 N2.gn, .int .i64 N2.st, .string N2.bd] 27) = w18 at *
  refine (C12.out _ _ H18.out.va).mono ?_
  rintro e w19 ⟨A11, c11, A12, c12, rfl, n11, n12, h11, h12, hb⟩
  have H19 := Lib.hid (H18.out.below hb)
  have T19 := Lib.hid (T18.out.below hb)
  have R19 := Lib.hid (R18.out.below hb R18.out.lt)
  have M19 := Lib.hid (M18.out.below hb M18.out.lt)
  have HB15 := Lib.hid S15.out.rt.lt
  have HBZ := Lib.hid ((Below.refl (set2 w19 b (.slice A11 L2.length c11) (.slice A12 K2.length c12)).heap.size (set2 w19 b (.slice A11 L2.length c11) (.slice A12 K2.length c12))).alloc (Nat.le_refl _) (.cells #[.int .i64 N2.id, .int .i64 N2.rt, .int .i64 N2.ep, .int .i64 N2.ct, .int .i64 N2.gn, .int .i64 N2.st, .string N2.bd] 27))
  have H21 := Lib.hid ((H19.out.far HW.out.1 HW.out.2 (show q < b by have := HQA.out; have := HAB.out; omega) (.slice A11 L2.length c11) (.slice A12 K2.length c12)).alloc (.cells #[.int .i64 N2.id, .int .i64 N2.rt, .int .i64 N2.ep, .int .i64 N2.ct, .int .i64 N2.gn, .int .i64 N2.st, .string N2.bd] 27))
  have T21 := Lib.hid ((T19.out.far HB15.out (show a ≠ b by have := HAB.out; omega) (.slice A11 L2.length c11) (.slice A12 K2.length c12)).alloc (.cells #[.int .i64 N2.id, .int .i64 N2.rt, .int .i64 N2.ep, .int .i64 N2.ct, .int .i64 N2.gn, .int .i64 N2.st, .string N2.bd] 27))
  have S21 := Lib.hid ((Tb6.put R19.out h11 h12 n11 n12 R18.out.lt).alloc (.cells #[.int .i64 N2.id, .int .i64 N2.rt, .int .i64 N2.ep, .int .i64 N2.ct, .int .i64 N2.gn, .int .i64 N2.st, .string N2.bd] 27))
  have M21 := Lib.hid ((M19.out.far (show z3 ≠ b by have := HZB.out; omega) (.slice A11 L2.length c11) (.slice A12 K2.length c12)).below HBZ.out (by rw [set2_size]; exact M19.out.lt))
  have N21 := Lib.hid (show RMs ((set2 w19 b (.slice A11 L2.length c11) (.slice A12 K2.length c12)).alloc (.cells #[.int .i64 N2.id, .int .i64 N2.rt, .int .i64 N2.ep, .int .i64 N2.ct, .int .i64 N2.gn, .int .i64 N2.st, .string N2.bd] 27)) w19.heap.size N2 from by have := RMs.start (set2 w19 b (.slice A11 L2.length c11) (.slice A12 K2.length c12)) N2 27; rwa [set2_size] at this)
  obtain ⟨b0, b1, bf0, bf1, bl⟩ := R19.out
  clear hb n11 n12 h11 h12
  obtain ⟨a0, a1, af0, af1, al⟩ := T21.out.rt
  obtain ⟨d0, d1, df0, df1, dlt⟩ := S21.out.rt
  obtain ⟨m0, m1, m2, m3, m4, m5, m6, -, -, -, -, -, -, -, ml⟩ := M21.out
  obtain ⟨k0, k1, k2, k3, k4, k5, k6, -, -, -, -, -, -, -, kl⟩ := N21.out
  go_wp2_with fail
  clear a0 a1 af0 af1 al b0 b1 bf0 bf1 bl d0 d1 df0 df1 dlt m0 m1 m2 m3 m4 m5 m6 ml k0 k1 k2 k3 k4 k5 k6 kl N21
  generalize (set2 w19 b (.slice A11 L2.length c11) (.slice A12 K2.length c12)).alloc (.cells #[.int .i64 N2.id, .int .i64 N2.rt, .int .i64 N2.ep, .int .i64 N2.ct, .int .i64 N2.gn, .int .i64 N2.st, .string N2.bd] 27) = w21 at *
  refine (C10.out _ _ _ _ _ _ _ _ _ _ _ _ _ _ _ T21.out S21.out).mono ?_
  rintro e w22 ⟨rfl, hb⟩
  have H22 := Lib.hid (H21.out.below hb)
  have T22 := Lib.hid (T21.out.below hb)
  have S22 := Lib.hid (S21.out.below hb)
  clear hb
  obtain ⟨t0, t1, tl⟩ := H22.out.va.tb
  go_wp2_with fail
  clear t0 t1 tl
  refine (C13.out _ _ H22.out.va).mono ?_
  rintro e w23 ⟨A13, c13, A14, c14, rfl, n13, n14, h13, h14, hb⟩
  have H23 := Lib.hid (H22.out.below hb)
  have T23 := Lib.hid (T22.out.below hb)
  have S23 := Lib.hid (S22.out.below hb)
  have H24 := Lib.hid (H23.out.far HW.out.1 HW.out.2 HQA.out (.slice A13 L3.length c13) (.slice A14 K3.length c14))
  have T24 := Lib.hid (Tb6.put T23.out.rt h13 h14 n13 n14 T22.out.rt.lt)
  have R24 := Lib.hid (S23.out.rt.far (show b ≠ a by have := HAB.out; omega) (.slice A13 L3.length c13) (.slice A14 K3.length c14))
  have HB22 := Lib.hid S22.out.rt.lt
  clear hb n13 n14 h13 h14
  obtain ⟨a0, a1, af0, af1, al⟩ := T23.out.rt
  obtain ⟨t0, t1, tl⟩ := H24.out.va.tb
  obtain ⟨w24, hsw24⟩ : ∃ W, W = set2 w23 a (.slice A13 L3.length c13) (.slice A14 K3.length c14) := ⟨_, rfl⟩
  have HSw24 := Lib.hid (show (w23.setCell ⟨a, 0, none⟩ (.slice A13 L3.length c13)).setCell ⟨a, 1, none⟩ (.slice A14 K3.length c14) = w24 from hsw24.symm)
  rw [← hsw24] at H24 T24 R24
  clear hsw24
  go_wp2_with fail
  clear t0 t1 tl a0 a1 af0 af1 al
  rw [HSw24.out]
  refine (C14.out _ _ H24.out.va).mono ?_
  rintro e w25 ⟨A15, c15, A16, c16, rfl, n15, n16, h15, h16, hb⟩
  have H25 := Lib.hid (H24.out.below hb)
  have T25 := Lib.hid (T24.out.below hb)
  have R25 := Lib.hid (R24.out.below hb R24.out.lt)
  have H26 := Lib.hid (H25.out.far HW.out.1 HW.out.2 (show q < b by have := HQA.out; have := HAB.out; omega) (.slice A15 L3.length c15) (.slice A16 K3.length c16))
  have T26 := Lib.hid (T25.out.far HB22.out (show a ≠ b by have := HAB.out; omega) (.slice A15 L3.length c15) (.slice A16 K3.length c16))
  have S26 := Lib.hid (Tb6.put R25.out h15 h16 n15 n16 R24.out.lt)
  clear hb n15 n16 h15 h16
  obtain ⟨b0, b1, bf0, bf1, bl⟩ := R25.out
  obtain ⟨a0, a1, af0, af1, al⟩ := T26.out.rt
  obtain ⟨d0, d1, df0, df1, dlt⟩ := S26.out.rt
  obtain ⟨w26, hsw26⟩ : ∃ W, W = set2 w25 b (.slice A15 L3.length c15) (.slice A16 K3.length c16) := ⟨_, rfl⟩
  have HSw26 := Lib.hid (show (w25.setCell ⟨b, 0, none⟩ (.slice A15 L3.length c15)).setCell ⟨b, 1, none⟩ (.slice A16 K3.length c16) = w26 from hsw26.symm)
  rw [← hsw26] at H26 T26 S26
  clear hsw26
  go_wp2_with fail
  clear a0 a1 af0 af1 al b0 b1 bf0 bf1 bl d0 d1 df0 df1 dlt
  rw [HSw26.out]
  refine (C10.out _ _ _ _ _ _ _ _ _ _ _ _ _ _ _ T26.out S26.out).mono ?_
  rintro e w27 ⟨rfl, hb⟩
  have HB27 := Lib.hid (H26.out.below hb).va.bel
  clear hb
  go_wp2
  go_ret
  exact ⟨rfl, HB27.out⟩
end Go.Proofs.YtjclhlejbidpgaaGreat
namespace Go.Proofs.YtjclhlejbidpgaaGreat
open Go.RowKit
set_option linter.unusedVariables false

def aw7 : Le := ⟨⟨7, 0, 0, 0, 1, 0, ⟨#[]⟩⟩, 30⟩
def aw9 : Le := ⟨⟨9, 0, 0, 0, 1, 0, ⟨#[]⟩⟩, 20⟩
theorem aw7_ok : leOk aw7 := ⟨by decide, by decide, by decide, by decide⟩
theorem aw9_ok : leOk aw9 := ⟨by decide, by decide, by decide, by decide⟩
theorem gr_yes {l : List Le} {h : List Du} {x : Le} (t : TbOk l h) (ok : leOk x) (hl : l.length < 12) (hf : kFi Le.id l x.id < 0) : grE l h x = 0 ∧ grL l h x = kIns Le.id l x ∧ grH l h x = hpu h x.du ∧ TbOk (kIns Le.id l x) (hpu h x.du) := by
  have e : grE l h x = 0 := by
    obtain ⟨h2, h3, h4, h5⟩ := ok
    unfold grE
    rw [if_neg (by simpa using (tbV_iff l h).2 t), if_neg (by simpa using h2), if_neg h3, if_neg (by omega), if_neg (by omega), if_neg (by omega)]
  exact ⟨e, if_pos e, if_pos e, t.grant ok ok.snd hl hf⟩
theorem aw_1 : grE [] [] aw7 = 0 ∧ grL [] [] aw7 = [aw7] ∧ grH [] [] aw7 = [aw7.du] ∧ TbOk [aw7] [aw7.du] := by
  obtain ⟨h1, h2, h3, h4⟩ := gr_yes TbOk.nil aw7_ok (by decide) (by decide)
  have e1 : kIns Le.id [] aw7 = [aw7] := rfl
  have e2 : hpu [] aw7.du = [aw7.du] := by unfold hpu; rw [List.length_nil, upF_zero]; rfl
  rw [e1] at h2 h4
  rw [e2] at h3 h4
  exact ⟨h1, h2, h3, h4⟩
theorem aw_2 : grE [aw7] [aw7.du] aw9 = 0 ∧ grL [aw7] [aw7.du] aw9 = [aw7, aw9] ∧ grH [aw7] [aw7.du] aw9 = [aw9.du, aw7.du] ∧ TbOk [aw7, aw9] [aw9.du, aw7.du] := by
  obtain ⟨h1, h2, h3, h4⟩ := gr_yes aw_1.2.2.2 aw9_ok (by decide) (by decide)
  have e1 : kIns Le.id [aw7] aw9 = [aw7, aw9] := by
    have : kAt Le.id [aw7] aw9.id = 1 := by decide
    unfold kIns; rw [this]; rfl
  have e2 : hpu [aw7.du] aw9.du = [aw9.du, aw7.du] := by
    unfold hpu
    rw [upF_step (by simp) (by decide), show ([aw7.du].length - 1) / 2 = 0 by simp, upF_zero]
    rfl
  rw [e1] at h2 h4
  rw [e2] at h3 h4
  exact ⟨h1, h2, h3, h4⟩
theorem aw_3 : laV [aw7, aw9] [aw9.du, aw7.du] 30 0 = [9, 7] := by
  have t := aw_2.2.2.2
  have hh := (vaF_zero t.va).2.2.2
  have e : unF [aw9.du, aw7.du] 30 = [9, 7] := by
    rw [unF_sorted hh (List.Perm.refl _) (by unfold Srt; simp; decide)]
    decide
  have f7 := (t.fn (k := 0) (by decide)).2
  have f9 := (t.fn (k := 1) (by decide)).2
  have f7' : fnX [aw7, aw9] [aw9.du, aw7.du] 7 = aw7 := f7
  have f9' : fnX [aw7, aw9] [aw9.du, aw7.du] 9 = aw9 := f9
  rw [t.lav]
  unfold laF
  rw [e, List.filter_cons, f9', List.filter_cons, f7']
  rfl
/-- A table of so many leases as a result. -/
def TEk (k k2 : Nat) (w : World) (l : List Le) (h : List Du) (e : Ending) (w' : World) : Prop := ∃ A c A2 c2, e = .returned (.tuple #[.agg #[.slice A k c, .slice A2 k2 c2], .int .i64 0]) ∧ Nw w.heap.size A ∧ Nw w.heap.size A2 ∧ El w' w'.heap.size (.slice A k c) l ∧ Dl w' w'.heap.size (.slice A2 k2 c2) h ∧ Below w.heap.size w w'
set_option maxHeartbeats 4000000 in
set_option maxRecDepth 20000 in
theorem awake6_any (w : World) : Calls Tryz.prog 6 #[] w fun e w' => e = .returned (.bool true) ∧ Below w.heap.size w w' := by
  have HP1 := Lib.hid (fun W => show Calls Tryz.prog 21 #[.agg #[.slice none 0 0, .slice none 0 0], .agg #[.int .i64 7, .int .i64 0, .int .i64 0, .int .i64 0, .int .i64 1, .int .i64 0, .string ⟨#[]⟩], .int .i64 30] W (TEk 1 1 W [aw7] [aw7.du]) from by
    have h := lgrant_any none 0 0 [] none 0 0 [] aw7 W El.nil Dl.nil
    rw [aw_1.1, aw_1.2.1, aw_1.2.2.1] at h
    exact h)
  have HP2 := Lib.hid (fun A c A2 c2 W (hv : El W W.heap.size (.slice A 1 c) [aw7]) (hd : Dl W W.heap.size (.slice A2 1 c2) [aw7.du]) => show Calls Tryz.prog 21 #[.agg #[.slice A 1 c, .slice A2 1 c2], .agg #[.int .i64 9, .int .i64 0, .int .i64 0, .int .i64 0, .int .i64 1, .int .i64 0, .string ⟨#[]⟩], .int .i64 20] W (TEk 2 2 W [aw7, aw9] [aw9.du, aw7.du]) from by
    have h := lgrant_any A 1 c [aw7] A2 1 c2 [aw7.du] aw9 W hv hd
    rw [aw_2.1, aw_2.2.1, aw_2.2.2.1] at h
    exact h)
  have HP3 := Lib.hid (fun A c A2 c2 W (hv : El W W.heap.size (.slice A 2 c) [aw7, aw9]) (hd : Dl W W.heap.size (.slice A2 2 c2) [aw9.du, aw7.du]) => show Calls Tryz.prog 17 #[.agg #[.slice A 2 c, .slice A2 2 c2], .int .i64 30, .int .i64 0] W (fun e w' => ∃ A c, e = .returned (.slice A 2 c) ∧ Nr w' w'.heap.size (.slice A 2 c) [9, 7] ∧ Below W.heap.size W w') from by
    have h := llapsed_any A 2 c [aw7, aw9] A2 2 c2 [aw9.du, aw7.du] 30 0 W hv hd
    rw [aw_3] at h
    exact h)
  have HP4 := Lib.hid (fun A A' n n' c c' W B B' h h' => rsamei_yes A A' n n' c c' [9, 7] W B B' h h')
  go_enter Tryz.func6, Tryz.ntmps6
  go_wp2_with fail
  refine (HP1.out _).mono ?_
  rintro e w1 ⟨A1, c1, A2, c2, rfl, n1, n2, h1, h2, hb⟩
  have R1 := Lib.hid (RT.start w1 A1 1 c1 A2 1 c2 25)
  have B1 := Lib.hid ((Below.refl w1.heap.size w1).alloc (Nat.le_refl _) (.cells #[.slice A1 1 c1, .slice A2 1 c2] 25))
  have E1 := Lib.hid (h1.up B1.out)
  have D1 := Lib.hid (h2.up B1.out)
  have HB1 := Lib.hid (hb.trans (B1.out.mono hb.size))
  have HBS := Lib.hid hb.size
  clear n1 n2 h1 h2 hb
  go_wp2_with fail
  obtain ⟨a, ha⟩ : ∃ a, a = w1.heap.size := ⟨_, rfl⟩
  have HA := Lib.hid (show w.heap.size ≤ a by have := HBS.out; omega)
  rw [← ha] at R1 ⊢
  clear ha B1
  generalize w1.alloc (.cells #[.slice A1 1 c1, .slice A2 1 c2] 25) = w2 at *
  refine (HP2.out _ _ _ _ _ E1.out D1.out).mono ?_
  rintro e w3 ⟨A3, c3, A4, c4, rfl, n3, n4, h3, h4, hb⟩
  have R3 := Lib.hid (R1.out.below hb R1.out.lt)
  have E3 := Lib.hid ((h3.set2 (v := .slice A3 2 c3) (v2 := .slice A4 2 c4) n3 R1.out.lt).more (show w3.heap.size ≤ (set2 w3 a (.slice A3 2 c3) (.slice A4 2 c4)).heap.size by simp))
  have D3 := Lib.hid ((h4.set2 (v := .slice A3 2 c3) (v2 := .slice A4 2 c4) n4 R1.out.lt).more (show w3.heap.size ≤ (set2 w3 a (.slice A3 2 c3) (.slice A4 2 c4)).heap.size by simp))
  have HB3 := Lib.hid (set2_below (v := .slice A3 2 c3) (v2 := .slice A4 2 c4) (HB1.out.trans (hb.mono HB1.out.size)) HA.out)
  clear n3 n4 h3 h4 hb
  obtain ⟨a0, a1, af0, af1, al⟩ := R3.out
  go_wp2_with fail
  refine (HP3.out _ _ _ _ _ E3.out D3.out).mono ?_
  rintro e w5 ⟨A5, c5, rfl, hn, hb⟩
  have HB5 := Lib.hid (HB3.out.trans (hb.mono HB3.out.size))
  have N5 := Lib.hid hn
  have B6 := Lib.hid ((Below.refl w5.heap.size w5).alloc (Nat.le_refl _) (.cells #[.int .i64 9, .int .i64 7] 3))
  have N6 := Lib.hid (N5.out.up B6.out)
  have L6 := Lib.hid (show Nr (w5.alloc (.cells #[.int .i64 9, .int .i64 7] 3)) (w5.heap.size + 1) (.slice (some ⟨w5.heap.size, 0, none⟩) 2 2) [9, 7] from ⟨_, 2, rfl, by decide, by unfold maxLen; omega, Rd.fresh w5 #[.int .i64 9, .int .i64 7] 3⟩)
  clear hn hb a0 a1 af0 af1 al
  go_wp2_with fail
  refine (HP4.out _ _ _ _ _ _ _ _ _ N6.out L6.out).mono ?_
  rintro e w6 ⟨rfl, hb⟩
  have HB6 := Lib.hid (HB5.out.trans ((B6.out.trans (hb.mono B6.out.size)).mono HB5.out.size))
  clear hb
  go_wp2
  go_ret
  exact ⟨rfl, HB6.out⟩
end Go.Proofs.YtjclhlejbidpgaaGreat
