/- What is proved here: arena.rangeError, deadCell, lockError, ownerOf by contracts; (lemmas) what a change of an owner leaves of a copied arena; arena.TryLock by a contract; ref12.New by a contract; arena.New by a contract. -/
import Derived.Test.YtijpflljopckiaaGreatJ33
import Derived.Test.YtijpflljopckiaaGreatJ34
import Derived.Deep.DeepCutAuto
import Derived.Deep.RegionHeld3
import Derived.Test.YtijpflljopckiaaGreatJ31
import Derived.Test.YtijpflljopckiaaGreatJ15
import Derived.Deep.AppendLies
import Derived.WalkSpells
import Derived.Test.YtijpflljopckiaaGreatJ03
import Derived.Test.YtijpflljopckiaaGreatRows
import Derived.Test.YtijpflljopckiaaGreatJ02
import Derived.WalkKit
import Derived.Outline
import Derived.IntWalk
import Derived.Test.YtijpflljopckiaaGreatJ22
import Derived.Test.YtijpflljopckiaaGreatJ14
import Derived.Test.YtijpflljopckiaaGreatJ16
import Derived.Deep.QuietTactic
import Derived.BigQuiet
namespace Go.Proofs.YtijpflljopckiaaGreat
open Go.RowKit
set_option linter.unusedVariables false

/-- The error of a number out of a range. -/
def rgE (n lo hi : Int) : Int := if wi n lo hi = true then 0 else 1
theorem arange_any (n lo hi : Int) (w : World) : Calls Tryz.prog 40 #[.int .i64 n, .int .i64 lo, .int .i64 hi] w fun e w' => e = .returned (.int .i64 (rgE n lo hi)) ∧ w = w' := by
  have HW := Lib.hid (fun W => awithin_any n lo hi W)
  cases h : wi n lo hi with
  | true =>
    have HE := Lib.hid (show rgE n lo hi = 0 from if_pos h)
    rw [h] at HW
    clear h
    go_enter Tryz.func40, Tryz.ntmps40
    go_wp2_with fail
    refine (HW.out _).mono ?_
    rintro e w1 ⟨rfl, rfl⟩
    go_wp2
    go_ret
    exact ⟨by rw [HE.out]; rfl, rfl⟩
  | false =>
    have HE := Lib.hid (show rgE n lo hi = 1 from if_neg (by rw [h]; decide))
    rw [h] at HW
    clear h
    go_enter Tryz.func40, Tryz.ntmps40
    go_wp2_with fail
    refine (HW.out _).mono ?_
    rintro e w1 ⟨rfl, rfl⟩
    go_wp2
    go_ret
    exact ⟨by rw [HE.out]; rfl, rfl⟩
set_option maxHeartbeats 2000000 in
set_option maxRecDepth 20000 in
theorem adeadcell_any (a : Ar) (Y : Ax) (w : World) : Calls Tryz.prog 41 #[av a Y] w fun e w' => e = .returned (.int .i64 (a.sl.length : Int)) ∧ Below w.heap.size w w' := by
  have HB := Lib.hid (QB.start w a Y 36)
  have HW := Lib.hid ((Below.refl w.heap.size w).alloc (Nat.le_refl _) (.cells #[.slice Y.A a.sl.length Y.c, .slice Y.A2 a.st.length Y.c2, .int .i64 a.ow, .int .i64 a.cap, .slice Y.A3 a.dl.length Y.c3, .int .i64 a.dir.vn, .slice Y.D.A a.dir.l.length Y.D.c, .slice Y.D.A2 a.dir.F.length Y.D.c2, .int .i64 a.ep, .int .i64 a.ck, .int .i64 a.ni] 36))
  go_enter Tryz.func41, Tryz.ntmps41
  obtain ⟨y0, -⟩ := HB.out.k
  have yl := HB.out.lt
  go_wp2
  go_ret
  exact ⟨rfl, HW.out⟩
/-- The error of a cell and a task. -/
def lkE (n : Nat) (k t : Int) : Int := if wi k 0 n = true then rgE t 1 200 else 1
set_option maxHeartbeats 4000000 in
set_option maxRecDepth 20000 in
theorem alockerr_any (a : Ar) (Y : Ax) (k t : Int) (w : World) : Calls Tryz.prog 21 #[av a Y, .int .i64 k, .int .i64 t] w fun e w' => e = .returned (.int .i64 (lkE a.sl.length k t)) ∧ Below w.heap.size w w' := by
  have HB := Lib.hid (QB.start w a Y 36)
  have HW := Lib.hid ((Below.refl w.heap.size w).alloc (Nat.le_refl _) (.cells #[.slice Y.A a.sl.length Y.c, .slice Y.A2 a.st.length Y.c2, .int .i64 a.ow, .int .i64 a.cap, .slice Y.A3 a.dl.length Y.c3, .int .i64 a.dir.vn, .slice Y.D.A a.dir.l.length Y.D.c, .slice Y.D.A2 a.dir.F.length Y.D.c2, .int .i64 a.ep, .int .i64 a.ck, .int .i64 a.ni] 36))
  have HD := Lib.hid (fun W => adeadcell_any a Y W)
  have HR1 := Lib.hid (fun W => arange_any k 0 (a.sl.length : Int) W)
  have HR2 := Lib.hid (fun W => arange_any t 1 200 W)
  obtain ⟨E2, hE2⟩ : ∃ E, E = rgE t 1 200 := ⟨_, rfl⟩
  obtain ⟨LE, hLE⟩ : ∃ E, E = lkE a.sl.length k t := ⟨_, rfl⟩
  have HLE := Lib.hid (show LE = if wi k 0 a.sl.length = true then E2 else 1 from by rw [hLE, hE2]; rfl)
  rw [← hE2] at HR2
  rw [← hLE]
  obtain ⟨p, hp⟩ : ∃ p, p = w.heap.size := ⟨_, rfl⟩
  have HPP := Lib.hid hp
  clear hE2 hLE hp
  cases h : wi k 0 (a.sl.length : Int) with
  | true =>
    have HL2 := Lib.hid (HLE.out.trans (if_pos h))
    have HR1 := Lib.hid (show ∀ W, Calls Tryz.prog 40 #[.int .i64 k, .int .i64 0, .int .i64 (a.sl.length : Int)] W fun e w' => e = .returned (.int .i64 0) ∧ W = w' from fun W => by
      have h1 := HR1.out W
      rwa [show rgE k 0 (a.sl.length : Int) = 0 from if_pos h] at h1)
    clear h HLE
    go_enter Tryz.func21, Tryz.ntmps21
    obtain ⟨y0, y1, y2, y3, y4, y5, y6, y7, y8, y9, y10⟩ := HB.out.k
    have yl := HB.out.lt
    go_wp2_with fail
    clear y0 y1 y2 y3 y4 y5 y6 y7 y8 y9 y10 yl
    refine (HD.out _).mono ?_
    rintro e w2 ⟨rfl, hb⟩
    have HW2 := Lib.hid (HW.out.trans (hb.mono HW.out.size))
    clear hb
    go_wp2_with fail
    refine (HR1.out _).mono ?_
    rintro e w3 ⟨rfl, rfl⟩
    go_wp2_with fail
    refine (HR2.out _).mono ?_
    rintro e w4 ⟨rfl, rfl⟩
    go_wp2
    go_ret
    exact ⟨by rw [HL2.out]; rfl, HW2.out⟩
  | false =>
    have HL2 := Lib.hid (HLE.out.trans (if_neg (by rw [h]; decide)))
    have HR1 := Lib.hid (show ∀ W, Calls Tryz.prog 40 #[.int .i64 k, .int .i64 0, .int .i64 (a.sl.length : Int)] W fun e w' => e = .returned (.int .i64 1) ∧ W = w' from fun W => by
      have h1 := HR1.out W
      rwa [show rgE k 0 (a.sl.length : Int) = 1 from if_neg (by rw [h]; decide)] at h1)
    clear h HLE
    go_enter Tryz.func21, Tryz.ntmps21
    obtain ⟨y0, y1, y2, y3, y4, y5, y6, y7, y8, y9, y10⟩ := HB.out.k
    have yl := HB.out.lt
    go_wp2_with fail
    clear y0 y1 y2 y3 y4 y5 y6 y7 y8 y9 y10 yl
    refine (HD.out _).mono ?_
    rintro e w2 ⟨rfl, hb⟩
    have HW2 := Lib.hid (HW.out.trans (hb.mono HW.out.size))
    clear hb
    go_wp2_with fail
    refine (HR1.out _).mono ?_
    rintro e w3 ⟨rfl, rfl⟩
    go_wp2
    go_ret
    exact ⟨by rw [HL2.out]; rfl, HW2.out⟩
/-- The owner of a cell, the place where it lies, an arena with another owner of it. -/
def Ar.own (a : Ar) (k : Nat) : Int := if k = a.sl.length then a.ow else (og a.sl k).ow
def ownP (p b n k : Nat) : Addr := if k = n then ⟨p, 2, none⟩ else ⟨b, k * 9, none⟩
def Ar.setOwn (a : Ar) (k : Nat) (v : Int) : Ar := if k = a.sl.length then ⟨a.sl, a.st, v, a.cap, a.dl, a.dir, a.ep, a.ck, a.ni⟩ else ⟨a.sl.set k ⟨v, (og a.sl k).sh⟩, a.st, a.ow, a.cap, a.dl, a.dir, a.ep, a.ck, a.ni⟩
set_option maxHeartbeats 4000000 in
set_option maxRecDepth 20000 in
theorem aownerof_any (a : Ar) (Y : Ax) (p b k : Nat) (w : World) (hq : QB w p a Y) (hA : Y.A = some ⟨b, 0, none⟩) (hc : a.sl.length ≤ Y.c) (hk : k ≤ a.sl.length) (h1 : a.sl.length ≤ 1000) :
    Calls Tryz.prog 24 #[.pointer (some ⟨p, 0, none⟩), .int .i64 (k : Int)] w fun e w' => e = .returned (.pointer (some (ownP p b a.sl.length k))) ∧ Below w.heap.size w w' := by
  have HQ := Lib.hid hq
  have HD := Lib.hid (fun W => adeadcell_any a Y W)
  have HA := Lib.hid hA
  by_cases hkn : k = a.sl.length
  · have HP := Lib.hid (show ownP p b a.sl.length k = ⟨p, 2, none⟩ from if_pos hkn)
    have hk1 : ((k : Int) == (a.sl.length : Int)) = true := by simpa using (show (k : Int) = (a.sl.length : Int) by omega)
    clear hq hA hkn hk h1 hc
    go_enter Tryz.func24, Tryz.ntmps24
    obtain ⟨y0, y1, y2, y3, y4, y5, y6, y7, y8, y9, y10⟩ := HQ.out.k
    have yl := HQ.out.lt
    go_wp2_with fail
    refine (HD.out _).mono ?_
    rintro e w2 ⟨rfl, hb⟩
    have HB := Lib.hid hb
    clear hb y0 y1 y2 y3 y4 y5 y6 y7 y8 y9 y10
    go_wp2
    go_ret
    exact ⟨by rw [HP.out]; rfl, HB.out⟩
  · have HP := Lib.hid (show ownP p b a.sl.length k = ⟨b, k * 9, none⟩ from if_neg hkn)
    have hk1 : ((k : Int) == (a.sl.length : Int)) = false := by simpa using (show ¬ (k : Int) = (a.sl.length : Int) by omega)
    have hlt : k < a.sl.length := by omega
    have hlt' : (k : Int) < (a.sl.length : Int) := by omega
    clear hq hkn hk hA
    go_enter Tryz.func24, Tryz.ntmps24
    obtain ⟨y0, y1, y2, y3, y4, y5, y6, y7, y8, y9, y10⟩ := HQ.out.k
    have yl := HQ.out.lt
    go_wp2_with fail
    refine (HD.out _).mono ?_
    rintro e w2 ⟨rfl, hb⟩
    have HB := Lib.hid hb
    clear y0 y1 y2 y3 y4 y5 y6 y7 y8 y9 y10 yl
    obtain ⟨y0, -⟩ := (HQ.out.up hb).k
    have yl := (HQ.out.up hb).lt
    rw [HA.out] at y0
    clear hb
    go_wp2
    go_ret
    exact ⟨by rw [HP.out]; simp, HB.out⟩
end Go.Proofs.YtijpflljopckiaaGreat
namespace Go.Proofs.YtijpflljopckiaaGreat
open Go.RowKit
set_option linter.unusedVariables false

theorem qcs_setow (Q : List Sl) (i : Nat) (x v : Int) (S : Sh) (D : Sx) (h : Q[i]? = some ⟨x, S, D⟩) : (qcs Q).set (i * 9) (.int .i64 v) = qcs (Q.set i ⟨v, S, D⟩) := by
  induction Q generalizing i with
  | nil => simp at h
  | cons s Q ih =>
    cases i with
    | zero =>
      simp only [List.getElem?_cons_zero, Option.some.injEq] at h
      subst h
      rfl
    | succ i =>
      simp only [List.getElem?_cons_succ] at h
      rw [qcs_cons, List.set_cons_succ, qcs_cons, ← ih i h, show (i + 1) * 9 = 9 + i * 9 by omega, sl_app_set]
section
variable {w W W' : World} {p r b : Nat} {a : Ar} {Y : Ax}
/-- The place of an owner. -/
theorem Cb12.at_ (h : Cb12 w p r b a Y W) {k : Nat} (hk : k ≤ a.sl.length) : W.cell? (ownP p b a.sl.length k) = some (.int .i64 (a.own k)) ∧ W.frozen? (ownP p b a.sl.length k) = false ∧ (ownP p b a.sl.length k).block < W.heap.size := by
  unfold ownP Ar.own
  by_cases e : k = a.sl.length
  · rw [if_pos e, if_pos e]
    exact ⟨h.pb.k.2.2.1, h.pb.fr 2, h.pb.lt⟩
  · rw [if_neg e, if_neg e]
    have hl : k < Y.q.length := by rw [h.len]; omega
    have h9 := h.ro.q9 (List.getElem?_eq_getElem hl)
    have e2 : Y.q[k].ow = (og a.sl k).ow := by
      rw [og_get (show k < a.sl.length by omega)]
      have : a.sl[k]'(by omega) = Y.q[k].so := by simp [← h.so]
      rw [this]; rfl
    rw [← e2]
    exact ⟨h9.1, h.ro.f _, h.ro.lt⟩
/-- Another owner is stored. -/
theorem Cb12.own (h : Cb12 w p r b a Y W) {k : Nat} (hk : k ≤ a.sl.length) (v : Int) : ∃ Y' : Ax, Cb12 w p r b (a.setOwn k v) Y' (W.setCell (ownP p b a.sl.length k) (.int .i64 v)) ∧ ∀ lo, Y.nw lo → Y'.nw lo := by
  have hne := h.ne
  unfold ownP Ar.setOwn
  by_cases e : k = a.sl.length
  · rw [if_pos e, if_pos e]
    obtain ⟨k1, k2, k3, k4, k5, k6, k7⟩ := h.keep 2 (.int .i64 v)
    obtain ⟨⟨y0, y1, y2, y3, y4, y5, y6, y7, y8, y9, y10⟩, fr, lt⟩ := h.pb
    exact ⟨Y, ⟨⟨⟨by simp [go_sem, y0], by simp [go_sem, y1], by simp [go_sem, y2], by simp [go_sem, y3], by simp [go_sem, y4], by simp [go_sem, y5], by simp [go_sem, y6], by simp [go_sem, y7], by simp [go_sem, y8], by simp [go_sem, y9], by simp [go_sem, y10]⟩, fun o => by simp [go_sem, fr o], by simp [lt]⟩, k5, k6, h.ea, h.ec, h.so, fun t ht => ⟨k1 t ht, (h.sr t ht).2⟩, ⟨k2, h.tl.2⟩, ⟨k3, h.ls.2⟩, ⟨k4, h.dr.2⟩, h.ne, k7⟩, fun _ hn => hn⟩
  · rw [if_neg e, if_neg e]
    have hl : k < Y.q.length := by rw [h.len]; omega
    obtain ⟨t, ht⟩ : ∃ t, Y.q[k]? = some t := ⟨_, List.getElem?_eq_getElem hl⟩
    have e2 : t.sh = (og a.sl k).sh := by
      rw [og_get (show k < a.sl.length by omega)]
      have h1 : (Y.q.map Sl.so)[k]? = some t.so := by rw [List.getElem?_map, ht]; rfl
      rw [h.so] at h1
      obtain ⟨_, h2⟩ := List.getElem?_eq_some_iff.1 h1
      rw [h2]; rfl
    obtain ⟨x, S, D⟩ := t
    simp only at e2
    rw [← e2]
    have hm := h.sr _ (List.mem_of_getElem? ht)
    have h2 := h.ro.set (j := k * 9) (by rw [qcs_len]; omega) (.int .i64 v)
    rw [qcs_setow Y.q k x v S D ht] at h2
    have hpb := h.pb.other (x := ⟨b, k * 9, none⟩) (show b ≠ p by omega) (.int .i64 v)
    have hmem : ∀ s ∈ Y.q.set k ⟨v, S, D⟩, s ∈ Y.q ∨ s = ⟨v, S, D⟩ := fun s hs => by
      rcases List.mem_or_eq_of_mem_set hs with h1 | h1
      · exact .inl h1
      · exact .inr h1
    refine ⟨⟨Y.A, Y.c, Y.q.set k ⟨v, S, D⟩, Y.A2, Y.c2, Y.A3, Y.c3, Y.D⟩, ⟨⟨?_, hpb.fr, hpb.lt⟩, h.rb.other (x := ⟨b, k * 9, none⟩) (show b ≠ r by omega) _, h2, h.ea, by simpa using h.ec, ?_, fun s hs => ?_, ⟨(h.tl.1.offb (p := ⟨b, k * 9, none⟩) h.tl.2.1 _).more (by simp), h.tl.2⟩, ⟨(h.ls.1.offp (p := ⟨b, k * 9, none⟩) h.ls.2.1 _).more (by simp), h.ls.2⟩, ⟨(h.dr.1.offp (q := ⟨b, k * 9, none⟩) h.dr.2.1 _).more (by simp), h.dr.2⟩, h.ne, h.bel.setCell (p := ⟨b, k * 9, none⟩) (show w.heap.size ≤ b by omega) _⟩, fun lo hn => ⟨hn.n1, fun s hs => ?_, hn.n2, hn.n3, hn.n4⟩⟩
    · obtain ⟨y0, y1, y2, y3, y4, y5, y6, y7, y8, y9, y10⟩ := hpb.k
      exact ⟨by simpa using y0, y1, y2, y3, y4, y5, y6, y7, y8, y9, y10⟩
    · show (Y.q.set k ⟨v, S, D⟩).map Sl.so = a.sl.set k ⟨v, S⟩
      rw [List.map_set, h.so]
      rfl
    · rcases hmem s hs with h1 | rfl
      · exact ⟨((h.sr s h1).1.offp (p := ⟨b, k * 9, none⟩) (h.sr s h1).2.1 _).more (by simp), (h.sr s h1).2⟩
      · exact ⟨(hm.1.offp (p := ⟨b, k * 9, none⟩) hm.2.1 _).more (by simp), hm.2⟩
    · rcases hmem s hs with h1 | rfl
      · exact hn.ns s h1
      · exact (show D.nw lo from hn.ns ⟨x, S, D⟩ (List.mem_of_getElem? ht))
theorem QB.far11 {q : Nat} {a' : Ar} {Y' : Ax} (h : QB W q a Y) (hq : p ≠ q) : QB (set11 W p a' Y') q a Y :=
  ((((((((((h.other (x := ⟨p, 0, none⟩) hq _).other (x := ⟨p, 1, none⟩) hq _).other (x := ⟨p, 2, none⟩) hq _).other (x := ⟨p, 3, none⟩) hq _).other (x := ⟨p, 4, none⟩) hq _).other (x := ⟨p, 5, none⟩) hq _).other (x := ⟨p, 6, none⟩) hq _).other (x := ⟨p, 7, none⟩) hq _).other (x := ⟨p, 8, none⟩) hq _).other (x := ⟨p, 9, none⟩) hq _).other (x := ⟨p, 10, none⟩) hq _
/-- A copy is stored into the box of its original. -/
theorem Ci12.copied (h : Ci12 w p r a Y W) {Z : Ax} (hb : Below W.heap.size W W') (hn : Z.nw W.heap.size) (har : AR W' W'.heap.size a Z) (ea : Z.A = some ⟨b, 0, none⟩) (ec : a.sl.length ≤ Z.c ∧ Z.c ≤ maxLen) (hr : Rb W' b (qcs Z.q)) (o1 : ∀ t ∈ Z.q, SOff t.sh t.sx b) (o2 : OffB b a.st.length Z.A2) (o3 : OffB b a.dl.length Z.A3) (o4 : DOff a.dir Z.D b) : Cb12 w p r b a Z (set11 W' p a Z) := by
  have h' := h.below hb
  have hne := h.ne
  have hpl := h.pb.lt
  have hrl := h.rb.lt
  have hbl : W.heap.size ≤ b := hn.n1 _ ea
  have hp := hn.off (a := a) hpl
  have hrr := hn.off (a := a) hrl
  have h11 := (har.set11 hp a Z).more (B' := (set11 W' p a Z).heap.size) (by rw [set11_size]; exact Nat.le_refl _)
  exact ⟨h'.pb.set a Z, h'.rb.far11 (by omega), hr.set11 (by omega) a Z, ea, ec, har.so, fun t ht => ⟨h11.sr t ht, o1 t ht, hp.os t ht, hrr.os t ht⟩, ⟨h11.tl, o2, hp.o2, hrr.o2⟩, ⟨h11.ls, o3, hp.o3, hrr.o3⟩, ⟨h11.dr, o4, hp.o4, hrr.o4⟩, ⟨hne.1, hne.2, by omega⟩, set11_below h'.bel hne.1 a Z⟩
end
end Go.Proofs.YtijpflljopckiaaGreat
namespace Go.Proofs.YtijpflljopckiaaGreat
open Go.RowKit
set_option linter.unusedVariables false

/-- An arena, whether it was locked, and an error as a result: its lists are new. -/
def A3P (w : World) (a : Ar) (ok : Bool) (x : Int) (e : Ending) (w' : World) : Prop := ∃ Y, e = .returned (.tuple #[av a Y, .bool ok, .int .i64 x]) ∧ Y.nw w.heap.size ∧ AR w' w'.heap.size a Y ∧ Below w.heap.size w w'
theorem a3_out {w W : World} {r : Nat} {a : Ar} {Y : Ax} (hr : w.heap.size ≤ r) (hb : Below w.heap.size w W) (hn : Y.nw (r + 1)) (hs : AR W W.heap.size a Y) (ok : Bool) (x : Int) : A3P w a ok x (.returned (.tuple #[av a Y, .bool ok, .int .i64 x])) (set11 W r a Y) :=
  ⟨Y, rfl, hn.low (by omega), (hs.set11 (hn.off (Nat.lt_succ_self r)) a Y).more (by rw [set11_size]; exact Nat.le_refl _), set11_below hb hr a Y⟩
/-- What TryLock gives. -/
def tlA (a : Ar) (k t : Int) : Ar := if lkE a.sl.length k t = 0 then a.setOwn k.toNat (if a.own k.toNat = 0 then t else a.own k.toNat) else zA
def tlB (a : Ar) (k t : Int) : Bool := decide (lkE a.sl.length k t = 0 ∧ a.own k.toNat = 0)
set_option maxHeartbeats 8000000 in
set_option maxRecDepth 20000 in
theorem atrylock_any (a : Ar) (Y : Ax) (k t : Int) (w : World) (har : AR w w.heap.size a Y) (hf : a.Few) : Calls Tryz.prog 9 #[av a Y, .int .i64 k, .int .i64 t] w (A3P w (tlA a k t) (tlB a k t) (lkE a.sl.length k t)) := by
  obtain ⟨p, hp⟩ : ∃ p, p = w.heap.size := ⟨_, rfl⟩
  obtain ⟨r, hr⟩ : ∃ r, r = w.heap.size + 1 := ⟨_, rfl⟩
  have H0 := Lib.hid (show Ci12 w p r a Y _ from by rw [hr, hp]; exact Ci12.start har)
  have HPP := Lib.hid (And.intro hp hr)
  have HLK := Lib.hid (fun W => alockerr_any a Y k t W)
  have HCL := Lib.hid (fun W (k : Ci12 w p r a Y W) => aclone_any a Y W (k.ar.more k.bel.size) hf)
  have HFW := Lib.hid hf
  obtain ⟨E, hE⟩ : ∃ E, E = lkE a.sl.length k t := ⟨_, rfl⟩
  rw [← hE] at HLK ⊢
  obtain ⟨TA, hTA⟩ : ∃ A, A = tlA a k t := ⟨_, rfl⟩
  obtain ⟨TB, hTB⟩ : ∃ A, A = tlB a k t := ⟨_, rfl⟩
  have HTA := Lib.hid (show TA = if E = 0 then a.setOwn k.toNat (if a.own k.toNat = 0 then t else a.own k.toNat) else zA from by rw [hTA, hE]; rfl)
  have HTB := Lib.hid (show TB = decide (E = 0 ∧ a.own k.toNat = 0) from by rw [hTB, hE]; rfl)
  rw [← hTA, ← hTB]
  have HEE := Lib.hid hE
  clear hp hr har hf hTA hTB hE
  go_enter Tryz.func9, Tryz.ntmps9
  go_upto_region 1 with (fail)
  rw [← HPP.out.2, ← HPP.out.1]
  generalize (w.alloc (.cells #[.slice Y.A a.sl.length Y.c, .slice Y.A2 a.st.length Y.c2, .int .i64 a.ow, .int .i64 a.cap, .slice Y.A3 a.dl.length Y.c3, .int .i64 a.dir.vn, .slice Y.D.A a.dir.l.length Y.D.c, .slice Y.D.A2 a.dir.F.length Y.D.c2, .int .i64 a.ep, .int .i64 a.ck, .int .i64 a.ni] 36)).alloc (.cells #[.slice none 0 0, .slice none 0 0, .int .i64 0, .int .i64 0, .slice none 0 0, .int .i64 0, .slice none 0 0, .slice none 0 0, .int .i64 0, .int .i64 0, .int .i64 0] 36) = w1 at *
  obtain ⟨y0, y1, y2, y3, y4, y5, y6, y7, y8, y9, y10⟩ := H0.out.pb.k
  have yl := H0.out.pb.lt
  go_wp2_with fail
  clear y0 y1 y2 y3 y4 y5 y6 y7 y8 y9 y10 yl
  refine (HLK.out _).mono ?_
  rintro e w2 ⟨rfl, hb⟩
  have H1 := Lib.hid (H0.out.below hb)
  clear hb H0 HLK
  by_cases hE0 : E = 0
  · have HA2 := Lib.hid (HTA.out.trans (if_pos hE0))
    have HB2 := Lib.hid (show TB = decide (a.own k.toNat = 0) from by rw [HTB.out]; simp [hE0])
    obtain ⟨n, hn⟩ : ∃ n : Nat, n = k.toNat := ⟨_, rfl⟩
    have HN := Lib.hid (show k = (n : Int) ∧ n ≤ a.sl.length from by
      have h := HEE.out
      rw [hE0] at h
      unfold lkE at h
      by_cases hw : wi k 0 (a.sl.length : Int) = true
      · have := wi_of hw; omega
      · rw [if_neg hw] at h; exact absurd h (by decide))
    rw [← hn] at HA2 HB2
    clear HTA HTB HEE hn
    subst hE0
    obtain ⟨y0, y1, y2, y3, y4, y5, y6, y7, y8, y9, y10⟩ := H1.out.pb.k
    have yl := H1.out.pb.lt
    go_wp2_with fail
    clear y0 y1 y2 y3 y4 y5 y6 y7 y8 y9 y10 yl
    refine (HCL.out _ H1.out).mono ?_
    rintro e w3 ⟨Z, b, rfl, hnw, har, hb, ea, ec, hrow, o1, o2, o3, o4⟩
    have HC := Lib.hid (show Cb12 w p r b a Z (((((((((((w3.setCell ⟨p, 0, none⟩ (.slice Z.A a.sl.length Z.c)).setCell ⟨p, 1, none⟩ (.slice Z.A2 a.st.length Z.c2)).setCell ⟨p, 2, none⟩ (.int .i64 a.ow)).setCell ⟨p, 3, none⟩ (.int .i64 a.cap)).setCell ⟨p, 4, none⟩ (.slice Z.A3 a.dl.length Z.c3)).setCell ⟨p, 5, none⟩ (.int .i64 a.dir.vn)).setCell ⟨p, 6, none⟩ (.slice Z.D.A a.dir.l.length Z.D.c)).setCell ⟨p, 7, none⟩ (.slice Z.D.A2 a.dir.F.length Z.D.c2)).setCell ⟨p, 8, none⟩ (.int .i64 a.ep)).setCell ⟨p, 9, none⟩ (.int .i64 a.ck)).setCell ⟨p, 10, none⟩ (.int .i64 a.ni)) from H1.out.copied hb hnw har ea ec hrow o1 o2 o3 o4)
    have HNW := Lib.hid (hnw.low (show r + 1 ≤ _ from H1.out.rb.lt))
    have H2 := Lib.hid (H1.out.below hb)
    clear hnw har hb ea ec hrow o1 o2 o3 o4 H1 HCL
    obtain ⟨y0, y1, y2, y3, y4, y5, y6, y7, y8, y9, y10⟩ := H2.out.pb.k
    have yl := H2.out.pb.lt
    obtain ⟨f0, f1, f2, f3, f4, f5, f6, f7, f8, f9, f10⟩ := H2.out.pb.free
    go_upto_region 5 with (fail)
    clear y0 y1 y2 y3 y4 y5 y6 y7 y8 y9 y10 yl f0 f1 f2 f3 f4 f5 f6 f7 f8 f9 f10 H2
    generalize ((((((((((w3.setCell ⟨p, 0, none⟩ (.slice Z.A a.sl.length Z.c)).setCell ⟨p, 1, none⟩ (.slice Z.A2 a.st.length Z.c2)).setCell ⟨p, 2, none⟩ (.int .i64 a.ow)).setCell ⟨p, 3, none⟩ (.int .i64 a.cap)).setCell ⟨p, 4, none⟩ (.slice Z.A3 a.dl.length Z.c3)).setCell ⟨p, 5, none⟩ (.int .i64 a.dir.vn)).setCell ⟨p, 6, none⟩ (.slice Z.D.A a.dir.l.length Z.D.c)).setCell ⟨p, 7, none⟩ (.slice Z.D.A2 a.dir.F.length Z.D.c2)).setCell ⟨p, 8, none⟩ (.int .i64 a.ep)).setCell ⟨p, 9, none⟩ (.int .i64 a.ck)).setCell ⟨p, 10, none⟩ (.int .i64 a.ni) = w4 at *
    have hkn := HN.out.1
    have HOW := Lib.hid (aownerof_any a Z p b n w4 HC.out.pb HC.out.ea HC.out.ec.1 HN.out.2 HFW.out.sl.2)
    rw [← hkn] at HOW
    clear hkn
    go_wp2_with fail
    refine HOW.out.mono ?_
    rintro e w5 ⟨rfl, hb⟩
    have HC2 := Lib.hid (HC.out.below hb)
    obtain ⟨c1, c2, c3⟩ := HC2.out.at_ HN.out.2
    have HSW := Lib.hid (swap_any (ownP p b a.sl.length n) (a.own n) 0 t w5 c1 c2 c3)
    have HOK := Lib.hid (fun W (k : Cb12 w p r b a Z W) (v : Int) => k.own HN.out.2 v)
    obtain ⟨P, hP⟩ : ∃ P, P = ownP p b a.sl.length n := ⟨_, rfl⟩
    rw [← hP] at HSW HOK ⊢
    obtain ⟨x, hx⟩ : ∃ x, x = a.own n := ⟨_, rfl⟩
    rw [← hx] at HSW HA2 HB2
    clear hb c1 c2 c3 hP hx HOW HC
    go_wp2_with fail
    refine HSW.out.mono ?_
    rintro e w6 ⟨rfl, w7, hb, hw6⟩
    have HX := Lib.hid (show ∃ Y' : Ax, Cb12 w p r b TA Y' w6 ∧ Y'.nw (r + 1) from by
      obtain ⟨Y', h1, h2⟩ := HOK.out w7 (HC2.out.below hb) (if x = 0 then t else x)
      exact ⟨Y', by rw [hw6, HA2.out]; exact h1, h2 _ HNW.out⟩)
    rw [← HB2.out]
    clear hb hw6 HC2 HOK HSW HNW HA2 HB2
    obtain ⟨Y', hcb, hny⟩ := HX.out
    have HCB := Lib.hid hcb
    have HNY := Lib.hid hny
    clear hcb hny HX
    have HF := Lib.hid (a3_out (show w.heap.size ≤ r by have := HCB.out.ne; omega) HCB.out.bel HNY.out HCB.out.ar TB 0)
    obtain ⟨y0, y1, y2, y3, y4, y5, y6, y7, y8, y9, y10⟩ := HCB.out.pb.k
    have yl := HCB.out.pb.lt
    obtain ⟨r0, r1, r2, r3, r4, r5, r6, r7, r8, r9, r10⟩ := HCB.out.rb.k
    have rl := HCB.out.rb.lt
    obtain ⟨f0, f1, f2, f3, f4, f5, f6, f7, f8, f9, f10⟩ := HCB.out.rb.free
    have hpr : ¬ p = r := by have := HCB.out.ne; omega
    have hrp : ¬ r = p := fun e => hpr e.symm
    clear HCB HNY
    go_wp2
    exact bodyPost_ret (v := .tuple #[av TA Y', .bool TB, .int .i64 0]) (by simp only [results, Tryz.results9]; go_simp <;> rfl) rfl HF.out
  · have hne : (E != 0) = true := bne_iff_ne.2 hE0
    have HA2 := Lib.hid (HTA.out.trans (if_neg hE0))
    have HB2 := Lib.hid (show TB = false from by rw [HTB.out]; simp [hE0])
    have HF := Lib.hid (show A3P w TA TB E (.returned (.tuple #[.agg #[.slice none 0 0, .slice none 0 0, .int .i64 0, .int .i64 0, .slice none 0 0, .int .i64 0, .slice none 0 0, .slice none 0 0, .int .i64 0, .int .i64 0, .int .i64 0], .bool false, .int .i64 E])) (set11 w2 r zA zAx) from by
      rw [HA2.out, HB2.out]
      exact a3_out (show w.heap.size ≤ r by have := H1.out.ne; omega) H1.out.bel (zAx_nw _) AR.zero false E)
    obtain ⟨r0, r1, r2, r3, r4, r5, r6, r7, r8, r9, r10⟩ := H1.out.rb.k
    have rl := H1.out.rb.lt
    obtain ⟨f0, f1, f2, f3, f4, f5, f6, f7, f8, f9, f10⟩ := H1.out.rb.free
    clear HTA HTB HEE HA2 HB2 H1 HCL hE0
    go_wp2
    exact bodyPost_ret (v := .tuple #[.agg #[.slice none 0 0, .slice none 0 0, .int .i64 0, .int .i64 0, .slice none 0 0, .int .i64 0, .slice none 0 0, .slice none 0 0, .int .i64 0, .int .i64 0, .int .i64 0], .bool false, .int .i64 E]) (by simp only [results, Tryz.results9]; go_simp <;> rfl) rfl HF.out
end Go.Proofs.YtijpflljopckiaaGreat
namespace Go.Proofs.YtijpflljopckiaaGreat
open Go.RowKit
set_option linter.unusedVariables false

theorem nwD_ok {n m : Nat} (h1 : 1 ≤ m) (h2 : m ≤ n) (h3 : n ≤ 6) : nwD n m = ⟨1, nwL m m, List.replicate n (-1)⟩ := by
  have hE : nwE10 n m = 0 := by unfold nwE10; rw [if_pos (by omega)]
  unfold nwD
  rw [if_pos hE]
  simp
theorem Db10.grownN {W W' : World} {g : Option Nat} {z : Nat} {d : Dd} {X : Dx} (h : Db10 W z d X) (hg : W.grownBy W' g) (ho : ∀ x, g = some x → z ≠ x) : Db10 W' z d X := by
  cases g with
  | none => exact h.up ((Below.refl _ _).grown hg (Nat.le_refl _) (fun k e => by cases e))
  | some x => exact h.grown hg (ho x rfl)
/-- An arena that grows, and the directory's box. -/
structure Gr12 (w : World) (p r z y : Nat) (s : Su) (i k : Nat) (A : Option Addr) (c1 : Nat) (q : List Sl) (A2 : Option Addr) (c2 : Nat) (X : Dx) (W : World) : Prop where
  gw : Gw12 w p r y s 0 i k A c1 q A2 c2 X W
  zb : Db10 W z (nwD s.sl s.lv) X
  zy : r < z ∧ z < y
section
variable {w W W' : World} {p r z y : Nat} {s : Su} {i k : Nat} {A A2 : Option Addr} {c1 c2 : Nat} {q : List Sl} {X : Dx}
theorem Gr12.below (h : Gr12 w p r z y s i k A c1 q A2 c2 X W) (hb : Below W.heap.size W W') : Gr12 w p r z y s i k A c1 q A2 c2 X W' := ⟨h.gw.below hb, h.zb.up hb, h.zy⟩
theorem Gr12.alloc (h : Gr12 w p r z y s i k A c1 q A2 c2 X W) (o : Obj) : Gr12 w p r z y s i k A c1 q A2 c2 X (W.alloc o) := h.below ((Below.refl _ _).alloc (Nat.le_refl _) o)
theorem Gr12.drew (h : Gr12 w p r z y s i k A c1 q A2 c2 X W) : Gr12 w p r z y s i k A c1 q A2 c2 X W.drew := h.below (Below.refl _ _).drew
theorem Gr12.slot {W0 : World} (h0 : Gw12 w p r y s 0 i k A c1 q A2 c2 X W0) (h : Gr12 w p r z y s i k A c1 q A2 c2 X W) {T : Sl} (hso : T.so = nwSl s i) (hsr : SR W W.heap.size T.sh T.sx) (hsn : T.sx.nw W0.heap.size)
    {g1 cp1 : Nat} (ho : W'.ownsRow (y + 1) 74 9 (.slice (some ⟨g1, 0, none⟩) (i + 1) cp1) (i + 1) (qcs q ++ T.l)) (hg : W.grownBy W' (Value.slice A i c1).ownBlock) (hat : (Value.slice A i c1).ownBlock = some g1 ∨ g1 = W.heap.size) :
    Gr12 w p r z y s (i + 1) k (some ⟨g1, 0, none⟩) cp1 (q ++ [T]) A2 c2 X (W'.setCell ⟨y, 0, none⟩ (.slice (some ⟨g1, 0, none⟩) (i + 1) cp1)) :=
  ⟨h0.slot h.gw hso hsr hsn ho hg hat, (h.zb.grownN hg (fun x e => by have := (h.gw.o1.lt x e).1; have := h.zy; omega)).other (a := ⟨y, 0, none⟩) (show y ≠ z by have := h.zy; omega) _, h.zy⟩
theorem Gr12.stripe (h : Gr12 w p r z y s i k A c1 q A2 c2 X W)
    {g1 cp1 : Nat} (ho : W'.ownsRow (y + 1) 60 4 (.slice (some ⟨g1, 0, none⟩) (k + 1) cp1) (k + 1) (tcs (List.replicate k (stE s)) ++ (stE s).l)) (hg : W.grownBy W' (Value.slice A2 k c2).ownBlock) (hat : (Value.slice A2 k c2).ownBlock = some g1 ∨ g1 = W.heap.size) :
    Gr12 w p r z y s i (k + 1) A c1 q (some ⟨g1, 0, none⟩) cp1 X (W'.setCell ⟨y, 1, none⟩ (.slice (some ⟨g1, 0, none⟩) (k + 1) cp1)) :=
  ⟨h.gw.stripe ho hg hat, (h.zb.grownN hg (fun x e => by have := (h.gw.o2.lt x e).1; have := h.zy; omega)).other (a := ⟨y, 1, none⟩) (show y ≠ z by have := h.zy; omega) _, h.zy⟩
/-- A store into a box that is none of these. -/
theorem Gr12.sets (h : Gr12 w p r z y s i k A c1 q A2 c2 X W) {x : Nat} (hb : Below x W W') (hx : W.heap.size ≤ x) : Gr12 w p r z y s i k A c1 q A2 c2 X W' := h.below (hb.mono hx)
end
/-- The box of the next shard, since the world w0. -/
structure Gx12 (w : World) (p r z y x : Nat) (w0 : World) (s : Su) (i : Nat) (A : Option Addr) (c1 : Nat) (q : List Sl) (A2 : Option Addr) (c2 : Nat) (X : Dx) (S : Sh) (D : Sx) (W : World) : Prop where
  g0 : Gr12 w p r z y s i i A c1 q A2 c2 X w0
  b0 : Below w0.heap.size w0 W
  xb : SB8 W x S D
  xr : SR W W.heap.size S D
  xn : D.nw w0.heap.size
  xl : w0.heap.size ≤ x
section
variable {w w0 W W' : World} {p r z y x : Nat} {s : Su} {i : Nat} {A A2 : Option Addr} {c1 c2 : Nat} {q : List Sl} {X : Dx} {S S' : Sh} {D E : Sx}
theorem Gx12.gr (h : Gx12 w p r z y x w0 s i A c1 q A2 c2 X S D W) : Gr12 w p r z y s i i A c1 q A2 c2 X W := h.g0.below h.b0
/-- Another shard is stored. -/
theorem Gx12.put (h : Gx12 w p r z y x w0 s i A c1 q A2 c2 X S D W) (hb : Below W.heap.size W W') (hr : SR W' W'.heap.size S' E) (hn : E.nw W.heap.size) : Gx12 w p r z y x w0 s i A c1 q A2 c2 X S' E (set8s W' x S' E) :=
  ⟨h.g0, set8s_below h.xl (h.b0.trans (hb.mono h.b0.size)) _ _, (h.xb.up hb).put S' E, SR.sets (hn.off h.xb.lt) (S'.l8 E) 0 W' hr, hn.low h.b0.size, h.xl⟩
/-- The cells that the draw of the next shard loads. -/
abbrev C4q (p z b o m c k i : Nat) (M : Sp) (W : World) : Prop := W.cell? ⟨p, 2, none⟩ = some (.int .i64 (k : Int)) ∧ W.cell? ⟨z, 1, none⟩ = some (.slice (some ⟨b, o, none⟩) m c) ∧ W.cell? ⟨b, o + i * 3, none⟩ = some (.int .i64 M.lo) ∧ W.cell? ⟨b, o + i * 3 + 1, none⟩ = some (.int .i64 M.hi)
theorem Gr12.c4 (h : Gr12 w p r z y s i i A c1 q A2 c2 X w0) {m k : Nat} (hk : s.cp = (k : Int)) (hm : (nwD s.sl s.lv).l.length = m) (hi : i < m) : ∃ b o, ∀ W, Below w0.heap.size w0 W → C4q p z b o m X.c k i (sg (nwD s.sl s.lv).l i) W := by
  obtain ⟨b, o, e, hb, h1, h2, -⟩ := h.gw.dr.pl.atg (k := i) (by omega)
  refine ⟨b, o, fun W hW => ⟨?_, ?_, ?_, ?_⟩⟩
  · rw [← hk]; exact (hW.cell (p := ⟨p, 2, none⟩) h.gw.sb.lt).trans h.gw.sb.k.2.2.1
  · rw [← e, ← hm]; exact (hW.cell (p := ⟨z, 1, none⟩) h.zb.lt).trans h.zb.c1
  · exact (hW.cell (p := ⟨b, o + i * 3, none⟩) hb).trans h1
  · exact (hW.cell (p := ⟨b, o + i * 3 + 1, none⟩) hb).trans h2
end

end Go.Proofs.YtijpflljopckiaaGreat
namespace Go.Proofs.YtijpflljopckiaaGreat
open Go.RowKit
set_option linter.unusedVariables false

set_option maxHeartbeats 8000000 in
set_option maxRecDepth 20000 in
theorem anew_any (s : Su) (w : World) : Calls Tryz.prog 5 #[s.v] w (AE w (nwA s) (nwAE s)) := by
  have H0 := Lib.hid (Pn12.start w s)
  have HIS := Lib.hid (fun W => isset_any s W)
  have HDN := Lib.hid (fun W => dnew_any s.sl s.lv W)
  have HDE := Lib.hid (fun W => new8_any s.dd W)
  have HA := Lib.hid (rfl : nwA s = if suB s = true then grA s s.sl.toNat s.sl.toNat s.dd else zA)
  have HE := Lib.hid (rfl : nwAE s = if suB s = true then 0 else 1)
  obtain ⟨i0, hi0, hz0⟩ := Option.map_eq_some_iff.1 info_sl
  obtain ⟨i1, hi1, hz1⟩ := Option.map_eq_some_iff.1 info_st12
  simp only [Prod.mk.injEq] at hz0 hz1
  have HI := Lib.hid hi0
  have HZ := Lib.hid hz0
  have HI1 := Lib.hid hi1
  have HZ1 := Lib.hid hz1
  clear hi0 hz0 hi1 hz1
  obtain ⟨p, hp⟩ : ∃ p, p = w.heap.size := ⟨_, rfl⟩
  obtain ⟨r, hr⟩ : ∃ r, r = w.heap.size + 1 := ⟨_, rfl⟩
  have HPP := Lib.hid (And.intro hp hr)
  clear hp hr
  cases hs : suB s with
  | false =>
    rw [hs] at HIS
    have HA2 := Lib.hid (show nwA s = zA from HA.out.trans (if_neg (by rw [hs]; decide)))
    have HE2 := Lib.hid (show nwAE s = 1 from HE.out.trans (if_neg (by rw [hs]; decide)))
    clear hs HA HE
    go_enter Tryz.func5, Tryz.ntmps5
    obtain ⟨k0, k1, k2, k3, k4, k5, k6, k7⟩ := H0.out.sb.k
    have kl := H0.out.sb.lt
    go_wp2_with fail
    clear k0 k1 k2 k3 k4 k5 k6 k7 kl
    rw [← HPP.out.2, ← HPP.out.1] at H0
    generalize (w.alloc (.cells #[.int .i64 s.sl, .int .i64 s.lv, .int .i64 s.cp, .int .i64 s.dd, .int .i64 s.lm, .int .i64 s.ck, .int .i64 s.ni, .int .i64 s.ep] 41)).alloc (.cells #[.slice none 0 0, .slice none 0 0, .int .i64 0, .int .i64 0, .slice none 0 0, .int .i64 0, .slice none 0 0, .slice none 0 0, .int .i64 0, .int .i64 0, .int .i64 0] 36) = w1 at *
    rw [← HPP.out.2, ← HPP.out.1]
    refine (HIS.out _).mono ?_
    rintro e w2 ⟨rfl, hb⟩
    have H1 := Lib.hid (H0.out.below hb)
    clear hb H0
    obtain ⟨k0, k1, k2, k3, k4, k5, k6, k7, k8, k9, k10⟩ := H1.out.rb.k
    obtain ⟨f0, f1, f2, f3, f4, f5, f6, f7, f8, f9, f10⟩ := H1.out.rb.free
    have kl := H1.out.rb.lt
    have HF := Lib.hid (show AE w (nwA s) (nwAE s) (.returned (.tuple #[av zA zAx, .int .i64 1])) (set11 w2 r zA zAx) from by
      rw [HA2.out, HE2.out]
      have := H1.out.ne
      exact ae_out (y := r) (by omega) H1.out.bel (zAx_nw _) (Nat.le_refl _) AR.zero 1)
    clear HA2 HE2 H1
    go_wp2
    exact bodyPost_ret (v := .tuple #[.agg #[.slice none 0 0, .slice none 0 0, .int .i64 0, .int .i64 0, .slice none 0 0, .int .i64 0, .slice none 0 0, .slice none 0 0, .int .i64 0, .int .i64 0, .int .i64 0], .int .i64 1]) (by simp only [results, Tryz.results5]; go_simp <;> rfl) rfl HF.out
  | true =>
    have HOK := Lib.hid (suB_iff.1 hs)
    rw [hs] at HIS
    have HA2 := Lib.hid (show nwA s = grA s s.sl.toNat s.sl.toNat s.dd from HA.out.trans (if_pos hs))
    have HE2 := Lib.hid (show nwAE s = 0 from HE.out.trans (if_pos hs))
    have HCP := Lib.hid (show nw8 s.dd = s.dd from if_pos (wi_true HOK.out.2.2.2.1.1 HOK.out.2.2.2.1.2))
    obtain ⟨n, hn⟩ : ∃ n : Nat, n = s.sl.toNat := ⟨_, rfl⟩
    have HNN := Lib.hid (show s.sl = (n : Int) ∧ n ≤ 6 from by have := HOK.out; unfold Su.Ok at this; omega)
    obtain ⟨k, hk⟩ : ∃ k : Nat, k = s.cp.toNat := ⟨_, rfl⟩
    have HKK := Lib.hid (show s.cp = (k : Int) ∧ 1 ≤ k ∧ k ≤ 12 ∧ k = s.cp.toNat from by have := HOK.out; unfold Su.Ok at this; omega)
    rw [← hn] at HA2
    rw [HCP.out] at HDE
    clear hs HA HE HCP hn hk
    go_enter Tryz.func5, Tryz.ntmps5
    obtain ⟨k0, k1, k2, k3, k4, k5, k6, k7⟩ := H0.out.sb.k
    have kl := H0.out.sb.lt
    go_wp2_with fail
    clear k0 k1 k2 k3 k4 k5 k6 k7 kl
    rw [← HPP.out.2, ← HPP.out.1] at H0
    generalize (w.alloc (.cells #[.int .i64 s.sl, .int .i64 s.lv, .int .i64 s.cp, .int .i64 s.dd, .int .i64 s.lm, .int .i64 s.ck, .int .i64 s.ni, .int .i64 s.ep] 41)).alloc (.cells #[.slice none 0 0, .slice none 0 0, .int .i64 0, .int .i64 0, .slice none 0 0, .int .i64 0, .slice none 0 0, .slice none 0 0, .int .i64 0, .int .i64 0, .int .i64 0] 36) = w1 at *
    rw [← HPP.out.2, ← HPP.out.1]
    refine (HIS.out _).mono ?_
    rintro e w2 ⟨rfl, hb⟩
    have H1 := Lib.hid (H0.out.below hb)
    clear hb H0
    have HY1 := Lib.hid (show Py12 w p r w2.heap.size s ⟨[], [], 0, 0, [], zD10, s.ep, s.ck, s.ni⟩ zAx (w2.alloc (.cells #[.slice none 0 0, .slice none 0 0, .int .i64 0, .int .i64 0, .slice none 0 0, .int .i64 0, .slice none 0 0, .slice none 0 0, .int .i64 s.ep, .int .i64 s.ck, .int .i64 s.ni] 36)) from ⟨H1.out.below ((Below.refl _ _).alloc (Nat.le_refl _) _), QB.start w2 ⟨[], [], 0, 0, [], zD10, s.ep, s.ck, s.ni⟩ zAx _, H1.out.rb.lt⟩)
    obtain ⟨k0, k1, k2, k3, k4, k5, k6, k7⟩ := H1.out.sb.k
    have kl := H1.out.sb.lt
    go_upto_region 4 with (fail)
    clear k0 k1 k2 k3 k4 k5 k6 k7 kl H1
    obtain ⟨y, hy⟩ : ∃ y, y = w2.heap.size := ⟨_, rfl⟩
    rw [← hy] at HY1 ⊢
    clear hy
    generalize w2.alloc (.cells #[.slice none 0 0, .slice none 0 0, .int .i64 0, .int .i64 0, .slice none 0 0, .int .i64 0, .slice none 0 0, .slice none 0 0, .int .i64 s.ep, .int .i64 s.ck, .int .i64 s.ni] 36) = w3 at *
    obtain ⟨k0, k1, k2, k3, k4, k5, k6, k7⟩ := HY1.out.pn.sb.k
    have kl := HY1.out.pn.sb.lt
    go_wp2_with fail
    clear k0 k1 k2 k3 k4 k5 k6 k7 kl
    refine (HDN.out _).mono ?_
    rintro e w4 ⟨X, rfl, hnw, hdr, hb⟩
    have HY2 := Lib.hid (HY1.out.below hb)
    have HXN := Lib.hid (hnw.low (show y + 1 ≤ _ from HY1.out.yb.lt))
    have HDR := Lib.hid hdr
    clear hb hnw hdr HY1 HDN
    have HY3 := Lib.hid (HY2.out.dir (nwD s.sl s.lv) X)
    have HDR3 := Lib.hid ((((HDR.out.offp (q := ⟨y, 5, none⟩) (HXN.out.off (Nat.lt_succ_self y)) (.int .i64 (nwD s.sl s.lv).vn)).offp (q := ⟨y, 6, none⟩) (HXN.out.off (Nat.lt_succ_self y)) (.slice X.A (nwD s.sl s.lv).l.length X.c)).offp (q := ⟨y, 7, none⟩) (HXN.out.off (Nat.lt_succ_self y)) (.slice X.A2 (nwD s.sl s.lv).F.length X.c2)).more (show w4.heap.size ≤ (((w4.setCell ⟨y, 5, none⟩ (.int .i64 (nwD s.sl s.lv).vn)).setCell ⟨y, 6, none⟩ (.slice X.A (nwD s.sl s.lv).l.length X.c)).setCell ⟨y, 7, none⟩ (.slice X.A2 (nwD s.sl s.lv).F.length X.c2)).heap.size by simp))
    obtain ⟨k0, k1, k2, k3, k4, k5, k6, k7, k8, k9, k10⟩ := HY2.out.yb.k
    obtain ⟨f0, f1, f2, f3, f4, f5, f6, f7, f8, f9, f10⟩ := HY2.out.yb.free
    have kl := HY2.out.yb.lt
    go_upto_region 5 with (fail)
    clear k0 k1 k2 k3 k4 k5 k6 k7 k8 k9 k10 f0 f1 f2 f3 f4 f5 f6 f7 f8 f9 f10 kl HY2 HDR
    generalize ((w4.setCell ⟨y, 5, none⟩ (.int .i64 (nwD s.sl s.lv).vn)).setCell ⟨y, 6, none⟩ (.slice X.A (nwD s.sl s.lv).l.length X.c)).setCell ⟨y, 7, none⟩ (.slice X.A2 (nwD s.sl s.lv).F.length X.c2) = w5 at *
    obtain ⟨k0, k1, k2, k3, k4, k5, k6, k7⟩ := HY3.out.pn.sb.k
    have kl := HY3.out.pn.sb.lt
    go_wp2_with fail
    clear k0 k1 k2 k3 k4 k5 k6 k7 kl
    refine (HDE.out _).mono ?_
    rintro e w6 ⟨rfl, hb⟩
    have HY4 := Lib.hid (HY3.out.below hb)
    have HDR4 := Lib.hid (HDR3.out.up hb)
    clear hb HY3 HDR3 HDE
    have HG := Lib.hid ((HY4.out.dead s.dd).grow (((HDR4.out.offp (q := ⟨y, 3, none⟩) (HXN.out.off (Nat.lt_succ_self y)) (.int .i64 s.dd)).offp (q := ⟨y, 4, none⟩) (HXN.out.off (Nat.lt_succ_self y)) (.slice none 0 0)).more (by simp)) ⟨HXN.out.low (by have := HY4.out.ry; omega), HXN.out.off (Nat.lt_succ_self y)⟩)
    obtain ⟨k0, k1, k2, k3, k4, k5, k6, k7, k8, k9, k10⟩ := HY4.out.yb.k
    obtain ⟨f0, f1, f2, f3, f4, f5, f6, f7, f8, f9, f10⟩ := HY4.out.yb.free
    have kl := HY4.out.yb.lt
    go_upto_region 6 with (fail)
    clear k0 k1 k2 k3 k4 k5 k6 k7 k8 k9 k10 f0 f1 f2 f3 f4 f5 f6 f7 f8 f9 f10 kl HY4 HDR4 HXN
    generalize (w6.setCell ⟨y, 3, none⟩ (.int .i64 s.dd)).setCell ⟨y, 4, none⟩ (.slice none 0 0) = w7 at *
    obtain ⟨k0, k1, k2, k3, k4, k5, k6, k7⟩ := HG.out.sb.k
    have kl := HG.out.sb.lt
    have hsl := HNN.out.1
    rw [hsl] at k0
    clear hsl
    go_wp2_with fail
    clear k0 k1 k2 k3 k4 k5 k6 k7 kl
    go_loopw [36] (fun iv wr => ∃ (i : Nat) (A : Option Addr) (c1 : Nat) (q : List Sl) (A2 : Option Addr) (c2 : Nat), iv = .int .i64 i ∧ i ≤ n ∧ Hid (Gw12 w p r y s s.dd i i A c1 q A2 c2 X wr)) (fun iv _ => n - (intOf iv).toNat)
    case atStart => exact ⟨0, none, 0, [], none, 0, rfl, Nat.zero_le _, HG⟩
    case round =>
      clear HG
      obtain ⟨i, A, c1, q, A2, c2, rfl, hi, HG⟩ := hrel
      by_cases hlt : i < n
      · have hlt' : (i : Int) < (n : Int) := by omega
        have hi6 : i < 6 := by have := HNN.out.2; omega
        have HI6 := Lib.hid hi6
        have hw1 : IntKind.i64.wrap ((i : Int) + 1) = (i : Int) + 1 := IntWalk.i64_in _ (by omega)
        obtain ⟨FF, hFF⟩ : ∃ FF, FF = ffS (nwD s.sl s.lv) (i : Int) k := ⟨_, rfl⟩
        have HFS := Lib.hid (fun W (k0 : Gw12 w p r y s s.dd i i A c1 q A2 c2 X W) => fshard_any (nwD s.sl s.lv) X (i : Int) k W k0.dr HKK.out.2.1 HKK.out.2.2.1)
        rw [← hFF] at HFS
        have HSO := Lib.hid (show ∀ D, Sl.so ⟨0, FF, D⟩ = nwSl s i from fun D => by unfold nwSl; rw [← HKK.out.2.2.2, ← hFF]; rfl)
        clear hFF hi hi6
        have HD := Lib.hid HG.out.drew
        obtain ⟨y0, y1, y2, y3, y4, y5, y6, y7, y8, y9, y10⟩ := HG.out.yk
        have yl := HG.out.yl
        obtain ⟨k0, k1, k2, k3, k4, k5, k6, k7⟩ := HG.out.sb.k
        have kl := HG.out.sb.lt
        have hcp := HKK.out.1
        rw [hcp] at k2
        clear hcp
        go_upto_region 9 with (fail)
        go_cut [5] (fun s5 wx => s5 = .int .i64 i ∧ ∃ (A : Option Addr) (c1 : Nat) (q : List Sl), Hid (Gw12 w p r y s s.dd (i + 1) i A c1 q A2 c2 X wx))
        case first =>
          go_region_law (first
            | (go_simp; go_at_call 19; (with_reducible refine (HFS.out _ HD.out).mono ?_); rintro e w4 ⟨D, rfl, hn, hr, hb⟩; have HTN := Lib.hid hn; have HD4 := Lib.hid (HD.out.below hb); have HD5 := Lib.hid (HD4.out.alloc (.cells (Sl.mk 0 FF D).l.toArray 74)); have HTR := Lib.hid (hr.up ((Below.refl w4.heap.size w4).alloc (Nat.le_refl _) (.cells (Sl.mk 0 FF D).l.toArray 74))); obtain ⟨z0, z1, z2, z3, z4, z5, z6, z7, z8, z9, z10⟩ := HD4.out.yk; have zl := HD4.out.yl; clear hn hr hb)
            | (refine step_append_lies _ (by rfl) _ _ _ (by rfl) (y + 1) 74 i0 _ 9 120 Tryz.underlying25 HI.out HZ.out.1 HZ.out.2.1 HZ.out.2.2 rfl (by omega) (.slice A i c1) i (qcs q) (by rfl) HD5.out.o1 ⟨w4.heap.size, 0, none⟩ 1 1 (Sl.mk 0 FF D).l (by rfl) (by rfl) (World.news_of_block (cs := (Sl.mk 0 FF D).l.toArray) (t := 74) (fr := (0, 0)) (heap_alloc_new w4 _)) (Sl.l_one _) (by omega) (by have := HI6.out; unfold maxLen; omega) (by have := HI6.out; omega) (Nat.succ_le_of_lt HD5.out.yl) _ rfl ?_; intro g1 cp1 w8 hown1 hgrow1 hat1 hlt1; have HP8 := Lib.hid (HD.out.slot (T := Sl.mk 0 FF D) HD5.out (HSO.out D) HTR.out HTN.out hown1 hgrow1 hat1); obtain ⟨v1, v2, v3⟩ := HD5.out.near1 hgrow1; clear hown1 hgrow1 hat1 hlt1))
          all_goals
            have HQ := Lib.hid HP8.out
            clear HP8 HG HD HD4 HD5 HTN HTR HFS HSO
            go_wp2_with fail
            go_meet
            exact ⟨rfl, _, _, _, HQ⟩
        case rest =>
          obtain ⟨rfl, A, c1, q, HQ⟩ := hcut
          clear y0 y1 y2 y3 y4 y5 y6 y7 y8 y9 y10 yl k0 k1 k2 k3 k4 k5 k6 k7 kl HG HD HFS HSO
          generalize wc = w9 at *
          obtain ⟨y0, y1, y2, y3, y4, y5, y6, y7, y8, y9, y10⟩ := HQ.out.yk
          have yl := HQ.out.yl
          obtain ⟨k0, k1, k2, k3, k4, k5, k6, k7⟩ := HQ.out.sb.k
          have kl := HQ.out.sb.lt
          go_wp2_with (at_builtin; refine wpList_append_lies _ rfl _ _ _ rfl (y + 1) 60 i1 _ 4 32 Tryz.underlying26 HI1.out HZ1.out.1 HZ1.out.2.1 HZ1.out.2.2 rfl (by omega) (.slice A2 i c2) i (tcs (List.replicate i (stE s))) (by rfl) (HQ.out.alloc _).o2 ⟨w9.heap.size, 0, none⟩ 1 1 (stE s).l (by rfl) (by rfl) (World.news_of_block (cs := (stE s).l.toArray) (t := 60) (fr := (0, 0)) (heap_alloc_new w9 _)) (St.l_one _) (by omega) (by have := HI6.out; unfold maxLen; omega) (by have := HI6.out; omega) (Nat.succ_le_of_lt (HQ.out.alloc _).yl) _ rfl ?_; intro g2 cp2 w10 hown2 hgrow2 hat2 hlt2; have HR := Lib.hid ((HQ.out.alloc _).stripe hown2 hgrow2 hat2); obtain ⟨u1, u2, u3⟩ := (HQ.out.alloc _).near2 hgrow2; clear hown2 hgrow2 hat2 hlt2)
          go_roundw
          case rel => exact ⟨i + 1, _, _, _, _, _, by go_num, by omega, HR⟩
          case measure => simp [intOf]; omega
      · obtain rfl : i = n := by omega
        clear hi hlt
        have HAR := Lib.hid HG.out.ar
        have HAN := Lib.hid HG.out.anw
        obtain ⟨y0, y1, y2, y3, y4, y5, y6, y7, y8, y9, y10⟩ := HG.out.yk
        have yl := HG.out.yl
        obtain ⟨k0, k1, k2, k3, k4, k5, k6, k7, k8, k9, k10⟩ := HG.out.rb.k
        obtain ⟨f0, f1, f2, f3, f4, f5, f6, f7, f8, f9, f10⟩ := HG.out.rb.free
        have kl := HG.out.rb.lt
        have hyr : ¬ y = r := by have := HG.out.ne; omega
        have hry : ¬ r = y := fun e => hyr e.symm
        have HF := Lib.hid (show AE w (nwA s) (nwAE s) (.returned (.tuple #[.agg #[.slice A i c1, .slice A2 i c2, .int .i64 0, .int .i64 s.dd, .slice none 0 0, .int .i64 (nwD s.sl s.lv).vn, .slice X.A (nwD s.sl s.lv).l.length X.c, .slice X.A2 (nwD s.sl s.lv).F.length X.c2, .int .i64 s.ep, .int .i64 s.ck, .int .i64 s.ni], .int .i64 0])) (((((((((((wr.setCell ⟨r, 0, none⟩ (.slice A i c1)).setCell ⟨r, 1, none⟩ (.slice A2 i c2)).setCell ⟨r, 2, none⟩ (.int .i64 0)).setCell ⟨r, 3, none⟩ (.int .i64 s.dd)).setCell ⟨r, 4, none⟩ (.slice none 0 0)).setCell ⟨r, 5, none⟩ (.int .i64 (nwD s.sl s.lv).vn)).setCell ⟨r, 6, none⟩ (.slice X.A (nwD s.sl s.lv).l.length X.c)).setCell ⟨r, 7, none⟩ (.slice X.A2 (nwD s.sl s.lv).F.length X.c2)).setCell ⟨r, 8, none⟩ (.int .i64 s.ep)).setCell ⟨r, 9, none⟩ (.int .i64 s.ck)).setCell ⟨r, 10, none⟩ (.int .i64 s.ni)) from by
          rw [HA2.out, HE2.out]
          have := HG.out.ne
          have h := ae_out (show w.heap.size ≤ r by omega) HG.out.bel HAN.out (by omega) HAR.out 0
          simp only [av, set11, grA_sl, grA_st] at h
          exact h)
        clear HAR HAN HA2 HE2 HG
        go_wp2
        exact bodyPost_ret (v := .tuple #[.agg #[.slice A i c1, .slice A2 i c2, .int .i64 0, .int .i64 s.dd, .slice none 0 0, .int .i64 (nwD s.sl s.lv).vn, .slice X.A (nwD s.sl s.lv).l.length X.c, .slice X.A2 (nwD s.sl s.lv).F.length X.c2, .int .i64 s.ep, .int .i64 s.ck, .int .i64 s.ni], .int .i64 0]) (by simp only [results, Tryz.results5]; go_simp <;> rfl) rfl HF.out
end Go.Proofs.YtijpflljopckiaaGreat
