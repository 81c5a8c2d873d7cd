/- What is proved here: shard.gather, by one contract for all shards; slices.Grow, slices.Concat of messages by contracts; shardqueueref05.SameInts of two lists that read alike is true; '==' and '!=' of a lease and itself. -/
import Derived.Test.YtkkgfnncdaiooaaGreatJ39
import Derived.Test.YtkkgfnncdaiooaaGreatJ30
import Derived.Test.YtkkgfnncdaiooaaGreatJ18
import Derived.Test.YtkkgfnncdaiooaaGreatJ08
import Derived.Test.YtkkgfnncdaiooaaGreatJ06
import Derived.Deep.RegionHeld3
import Derived.Test.YtkkgfnncdaiooaaGreatJ03
import Derived.Test.YtkkgfnncdaiooaaGreatJ01
import Derived.WalkSpells
import Derived.Lib.AppendZerosOnto
import Derived.Shelf.Spec.SlicesGrow
import Derived.Test.YtkkgfnncdaiooaaGreatJ28
import Derived.Deep.QuietTactic
import Derived.BigQuiet
import Derived.Test.YtkkgfnncdaiooaaGreatJ11
import Derived.Test.YtkkgfnncdaiooaaGreatJ05
namespace Go.Proofs.YtkkgfnncdaiooaaGreat
open Go.RowKit
set_option linter.unusedVariables false

structure GtAt (w : World) (p f r : Nat) (S F : Sh) (D E : Sx) (W : World) : Prop where
  sa : SAt w p S D W
  fa : SAt w f F E W
  rs : SB8 W r zS zX
  ne : p < f ∧ f < r
  eo : SOff F E p
  ro : SOff S D r
section
variable {w W W' : World} {p f r : Nat} {S F : Sh} {D E : Sx}
theorem GtAt.below (h : GtAt w p f r S F D E W) (hb : Below W.heap.size W W') : GtAt w p f r S F D E W' :=
  ⟨h.sa.below hb, h.fa.below hb, h.rs.up hb, h.ne, h.eo, h.ro⟩
theorem GtAt.alloc (h : GtAt w p f r S F D E W) (o : Obj) : GtAt w p f r S F D E (W.alloc o) := h.below ((Below.refl _ _).alloc (Nat.le_refl _) o)
theorem GtAt.setRing {A : Option Addr} {c : Nat} {cs : List Msg} (h : GtAt w p f r S F D E W) (hd sz : Int) (hl : Ls W W.heap.size (.slice A cs.length c) cs) (ho : OffB p cs.length A) (hr : OffB r cs.length A) :
    GtAt w p f r ⟨S.lv, S.lo, S.hi, cs, hd, sz, S.l, S.h⟩ F ⟨A, c, D.A2, D.c2, D.A3, D.c3⟩ E (((W.setCell ⟨p, 3, none⟩ (.slice A cs.length c)).setCell ⟨p, 4, none⟩ (.int .i64 hd)).setCell ⟨p, 5, none⟩ (.int .i64 sz)) := by
  have hne := h.ne
  have hold := h.sa.old
  exact ⟨h.sa.setRing hd sz hl ho, ((h.fa.other (q := ⟨p, 3, none⟩) (show p ≠ f by omega) h.eo hold _).other (q := ⟨p, 4, none⟩) (show p ≠ f by omega) h.eo hold _).other (q := ⟨p, 5, none⟩) (show p ≠ f by omega) h.eo hold _,
    ((h.rs.other (q := ⟨p, 3, none⟩) (show p ≠ r by omega) _).other (q := ⟨p, 4, none⟩) (show p ≠ r by omega) _).other (q := ⟨p, 5, none⟩) (show p ≠ r by omega) _, h.ne, h.eo, ⟨hr, h.ro.o2, h.ro.o3⟩⟩
theorem GtAt.setTab {A2 A3 : Option Addr} {c2 c3 : Nat} {l : List Le} {hh : List Du} (h : GtAt w p f r S F D E W) (hl : El W W.heap.size (.slice A2 l.length c2) l) (hd : Dl W W.heap.size (.slice A3 hh.length c3) hh) (o2 : OffB p l.length A2) (o3 : OffB p hh.length A3) (r2 : OffB r l.length A2) (r3 : OffB r hh.length A3) :
    GtAt w p f r ⟨S.lv, S.lo, S.hi, S.cs, S.hd, S.sz, l, hh⟩ F ⟨D.A, D.c, A2, c2, A3, c3⟩ E ((W.setCell ⟨p, 6, none⟩ (.slice A2 l.length c2)).setCell ⟨p, 7, none⟩ (.slice A3 hh.length c3)) := by
  have hne := h.ne
  have hold := h.sa.old
  exact ⟨h.sa.setTab hl hd o2 o3, (h.fa.other (q := ⟨p, 6, none⟩) (show p ≠ f by omega) h.eo hold _).other (q := ⟨p, 7, none⟩) (show p ≠ f by omega) h.eo hold _,
    (h.rs.other (q := ⟨p, 6, none⟩) (show p ≠ r by omega) _).other (q := ⟨p, 7, none⟩) (show p ≠ r by omega) _, h.ne, h.eo, ⟨h.ro.o1, r2, r3⟩⟩
end
def Sx.from (D D' : Sx) (lo : Nat) : Prop := ∀ n, n ≤ lo → D.nw n → D'.nw n
def GA (w : World) (D : Sx) (S : Sh) (e : Ending) (w' : World) : Prop := ∃ D', e = .returned (sv S D') ∧ D.from D' w.heap.size ∧ SR w' w'.heap.size S D' ∧ Below w.heap.size w w'
theorem Sx.from.refl (D : Sx) (lo : Nat) : D.from D lo := fun _ _ h => h
theorem Sx.from.ring {D D' : Sx} {lo lo' : Nat} {A : Option Addr} {c : Nat} (h : D.from D' lo) (hn : Nw lo' A) (hl : lo ≤ lo') : D.from ⟨A, c, D'.A2, D'.c2, D'.A3, D'.c3⟩ lo := fun n hn' hd => ⟨nw_low hn (by omega), (h n hn' hd).n2, (h n hn' hd).n3⟩
theorem Sx.from.tab {D D' : Sx} {lo lo' : Nat} {A2 A3 : Option Addr} {c2 c3 : Nat} (h : D.from D' lo) (h2 : Nw lo' A2) (h3 : Nw lo' A3) (hl : lo ≤ lo') : D.from ⟨D'.A, D'.c, A2, c2, A3, c3⟩ lo := fun n hn' hd => ⟨(h n hn' hd).n1, nw_low h2 (by omega), nw_low h3 (by omega)⟩

set_option maxHeartbeats 8000000 in
set_option maxRecDepth 20000 in
theorem gather_any (S F : Sh) (D E : Sx) (w : World) (hs : SR w w.heap.size S D) (hf : SR w w.heap.size F E) (h12 : F.l.length ≤ 1000) (h11 : (lsF F.cs F.hd F.sz).length ≤ 1000) :
    Calls Tryz.prog 79 #[sv S D, sv F E] w (GA w D (gthF S F)) := by
  have HG0 := Lib.hid (show GtAt w w.heap.size (w.heap.size + 1) (w.heap.size + 1 + 1) S F D E (((w.alloc (.cells #[.bool S.lv, .int .i64 S.lo, .int .i64 S.hi, .slice D.A S.cs.length D.c, .int .i64 S.hd, .int .i64 S.sz, .slice D.A2 S.l.length D.c2, .slice D.A3 S.h.length D.c3] 33)).alloc (.cells #[.bool F.lv, .int .i64 F.lo, .int .i64 F.hi, .slice E.A F.cs.length E.c, .int .i64 F.hd, .int .i64 F.sz, .slice E.A2 F.l.length E.c2, .slice E.A3 F.h.length E.c3] 33)).alloc (.cells #[.bool false, .int .i64 0, .int .i64 0, .slice none 0 0, .int .i64 0, .int .i64 0, .slice none 0 0, .slice none 0 0] 33)) from by
    have a1 := SAt.start 33 hs
    have b1 : Below w.heap.size w (w.alloc (.cells #[.bool S.lv, .int .i64 S.lo, .int .i64 S.hi, .slice D.A S.cs.length D.c, .int .i64 S.hd, .int .i64 S.sz, .slice D.A2 S.l.length D.c2, .slice D.A3 S.h.length D.c3] 33)) := (Below.refl _ _).alloc (Nat.le_refl _) _
    have a2 := SAt.start 33 (hf.up b1)
    have a3 := SB8.zero ((w.alloc (.cells #[.bool S.lv, .int .i64 S.lo, .int .i64 S.hi, .slice D.A S.cs.length D.c, .int .i64 S.hd, .int .i64 S.sz, .slice D.A2 S.l.length D.c2, .slice D.A3 S.h.length D.c3] 33)).alloc (.cells #[.bool F.lv, .int .i64 F.lo, .int .i64 F.hi, .slice E.A F.cs.length E.c, .int .i64 F.hd, .int .i64 F.sz, .slice E.A2 F.l.length E.c2, .slice E.A3 F.h.length E.c3] 33)) 33
    have e1 : (w.alloc (.cells #[.bool S.lv, .int .i64 S.lo, .int .i64 S.hi, .slice D.A S.cs.length D.c, .int .i64 S.hd, .int .i64 S.sz, .slice D.A2 S.l.length D.c2, .slice D.A3 S.h.length D.c3] 33)).heap.size = w.heap.size + 1 := by simp
    rw [e1] at a2
    refine ⟨(a1.alloc _).alloc _, ?_, by simpa using a3, ⟨by omega, by omega⟩, hf.offs (Nat.le_refl _), hs.offs (by omega)⟩
    have a2' := a2.alloc (.cells #[.bool false, .int .i64 0, .int .i64 0, .slice none 0 0, .int .i64 0, .int .i64 0, .slice none 0 0, .slice none 0 0] 33)
    exact ⟨a2'.s8, a2'.sr, a2'.off, b1.trans (a2'.bel.mono b1.size), by have := a2'.old; rw [e1] at this; omega⟩)
  have HN0 := Lib.hid (show SOff S D (w.heap.size + 1 + 1) ∧ SOff F E (w.heap.size + 1 + 1) from ⟨hs.offs (by omega), hf.offs (by omega)⟩)
  obtain ⟨P, hP⟩ : ∃ P, P = gthF S F := ⟨_, rfl⟩
  have HPP := Lib.hid (show P = glF (gpF S (lsF F.cs F.hd F.sz)) F.l from hP)
  rw [← hP]
  have HGL := Lib.hid (fun W (q : SR W W.heap.size F E) => glist_any E.A F.cs.length E.c F.cs F.hd F.sz W q.ls)
  have HTN := Lib.hid (fun k (hk : k < (lsF F.cs F.hd F.sz).length) => gpF_next (S := S) hk)
  have HT0 := Lib.hid (show gpF S ((lsF F.cs F.hd F.sz).take (lsF F.cs F.hd F.sz).length) = gpF S (lsF F.cs F.hd F.sz) by rw [List.take_length])
  clear hP hs hf
  generalize lsF F.cs F.hd F.sz = T at *
  have HTL := Lib.hid h11
  have HFL := Lib.hid h12
  clear h11 h12
  go_enter Tryz.func79, Tryz.ntmps79
  obtain ⟨p, hp⟩ : ∃ p, p = w.heap.size := ⟨_, rfl⟩
  obtain ⟨f, hf⟩ : ∃ p, p = w.heap.size + 1 := ⟨_, rfl⟩
  obtain ⟨r, hr⟩ : ∃ p, p = w.heap.size + 1 + 1 := ⟨_, rfl⟩
  go_upto_region 1 with (fail)
  rw [← hr, ← hf, ← hp]
  rw [← hr, ← hf, ← hp] at HG0
  rw [← hr] at HN0
  have HPW := Lib.hid (show w.heap.size ≤ p ∧ w.heap.size ≤ r by omega)
  clear hp hf hr
  generalize (((w.alloc (.cells #[.bool S.lv, .int .i64 S.lo, .int .i64 S.hi, .slice D.A S.cs.length D.c, .int .i64 S.hd, .int .i64 S.sz, .slice D.A2 S.l.length D.c2, .slice D.A3 S.h.length D.c3] 33)).alloc (.cells #[.bool F.lv, .int .i64 F.lo, .int .i64 F.hi, .slice E.A F.cs.length E.c, .int .i64 F.hd, .int .i64 F.sz, .slice E.A2 F.l.length E.c2, .slice E.A3 F.h.length E.c3] 33)).alloc (.cells #[.bool false, .int .i64 0, .int .i64 0, .slice none 0 0, .int .i64 0, .int .i64 0, .slice none 0 0, .slice none 0 0] 33)) = w1 at *
  obtain ⟨t0, t1, t2, t3, t4, t5, t6, t7, tl⟩ := HG0.out.fa.s8.facts
  go_wp2_with fail
  clear t0 t1 t2 t3 t4 t5 t6 t7 tl
  refine (HGL.out _ HG0.out.fa.sr).mono ?_
  rintro e w2 ⟨v2, rfl, hn2, hl2, hb⟩
  obtain ⟨A0, c0, rfl, -, -⟩ := id hl2
  have HO2 := Lib.hid (show OffB p T.length A0 from offb_nw (nwv_of hn2) HG0.out.sa.lt)
  have HG2 := Lib.hid (HG0.out.below hb)
  have HL2 := Lib.hid hl2
  have HB2 := Lib.hid (HG2.out.fa.bel)
  clear hn2 hl2 hb HG0
  go_wp2
  go_loopw [6, 13] (fun _ i wr => ∃ (k : Nat) (S1 : Sh) (D1 : Sx), k ≤ T.length ∧ i = .int .i64 k ∧ Hid (S1 = gpF S (T.take k)) ∧ Hid (GtAt w p f r S1 F D1 E wr) ∧ Hid (Ls wr wr.heap.size (.slice A0 T.length c0) T) ∧ Hid (D.from D1 w.heap.size) ∧ Hid (OffB p T.length A0)) (fun _ i _ => T.length - (intOf i).toNat)
  case atStart => exact ⟨0, S, D, Nat.zero_le _, rfl, Lib.hid rfl, HG2, HL2, Lib.hid (Sx.from.refl D _), HO2⟩
  case round =>
    clear HG2 HL2
    obtain ⟨k, S1, D1, hk, rfl, HS, HG, HL, HD, HO⟩ := hrel
    by_cases hlt : k < T.length
    · obtain ⟨b, o, rfl, hbl, c0', c1', c2', c3', c4', c5', c6'⟩ := HL.out.at_ hlt
      have HTK := Lib.hid (HTN.out k hlt)
      generalize T[k] = X at *
      have hl64 : (T.length : Int) ≤ 1000 := by have := HTL.out; omega
      have HGA := Lib.hid (HG.out.alloc (.cells #[.int .i64 X.id, .int .i64 X.rt, .int .i64 X.ep, .int .i64 X.ct, .int .i64 X.gn, .int .i64 X.st, .string X.bd] 57))
      have HMX := Lib.hid (MBx.start wr X 57)
      have HLA := Lib.hid (HL.out.up ((Below.refl _ _).alloc (Nat.le_refl _) (.cells #[.int .i64 X.id, .int .i64 X.rt, .int .i64 X.ep, .int .i64 X.ct, .int .i64 X.gn, .int .i64 X.st, .string X.bd] 57)))
      have HPQ := Lib.hid (show ¬ wr.heap.size = p ∧ ¬ p = wr.heap.size by have := HG.out.sa.lt; omega)
      obtain ⟨t0, t1, t2, t3, t4, t5, t6, t7, tl⟩ := HG.out.sa.s8.facts
      go_wp2_with fail
      clear t0 t1 t2 t3 t4 t5 t6 t7 tl c0' c1' c2' c3' c4' c5' c6' hbl HG HL
      obtain ⟨q, hq⟩ : ∃ q, q = wr.heap.size := ⟨_, rfl⟩
      rw [← hq] at HMX HPQ ⊢
      clear hq
      generalize wr.alloc (.cells #[.int .i64 X.id, .int .i64 X.rt, .int .i64 X.ep, .int .i64 X.ct, .int .i64 X.gn, .int .i64 X.st, .string X.bd] 57) = wa at *
      refine (shas_any S1 D1 X.rt wa).mono ?_
      rintro e w3 ⟨rfl, hb⟩
      have HG3 := Lib.hid (HGA.out.below hb)
      have HM3 := Lib.hid (HMX.out.up hb)
      have HL3 := Lib.hid (HLA.out.up hb)
      clear hb HGA HMX HLA
      cases hw : wi X.rt S1.lo S1.hi with
      | false =>
        have HS4 := Lib.hid (show S1 = gpF S (T.take (k + 1)) by rw [HTK.out, ← HS.out, gp_no hw])
        clear hw
        go_wp2
        go_roundw
        case rel => exact ⟨k + 1, S1, D1, by omega, by go_num, HS4, HG3, HL3, HD, HO⟩
        case measure => simp [intOf]; omega
      | true =>
        have HS4 := Lib.hid (show S1.psh X = gpF S (T.take (k + 1)) by rw [HTK.out, ← HS.out, gp_yes hw])
        have HPB := Lib.hid (pback_any D1.A S1.cs.length D1.c S1.cs S1.hd S1.sz X w3 HG3.out.sa.sr.ls)
        obtain ⟨S2, hS2⟩ : ∃ S2, S2 = S1.psh X := ⟨_, rfl⟩
        rw [← hS2] at HS4
        have HS2 := Lib.hid (show S2 = ⟨S1.lv, S1.lo, S1.hi, pbC S1.cs S1.hd S1.sz X, ifE (puE S1.cs S1.hd S1.sz X) S1.hd, ifE (puE S1.cs S1.hd S1.sz X) (S1.sz + 1), S1.l, S1.h⟩ from hS2)
        clear hS2 hw
        generalize pbC S1.cs S1.hd S1.sz X = xs at *
        generalize ifE (puE S1.cs S1.hd S1.sz X) S1.hd = xh at *
        generalize ifE (puE S1.cs S1.hd S1.sz X) (S1.sz + 1) = xz at *
        generalize puE S1.cs S1.hd S1.sz X = xe at *
        obtain ⟨t0, t1, t2, t3, t4, t5, t6, t7, tl⟩ := HG3.out.sa.s8.facts
        obtain ⟨v0, v1, v2, v3, v4, v5, v6⟩ := HM3.out.m7
        have vl := HM3.out.lt
        go_wp2_with fail
        clear t0 t1 t2 t3 t4 t5 t6 t7 tl v0 v1 v2 v3 v4 v5 v6 vl
        refine HPB.out.mono ?_
        rintro e w5 ⟨A5, c5, rfl, hn, hl, hb⟩
        have HG5 := Lib.hid (HG3.out.below hb)
        have HL5 := Lib.hid (HL3.out.up hb)
        have HG6 := Lib.hid (show GtAt w p f r S2 F ⟨A5, c5, D1.A2, D1.c2, D1.A3, D1.c3⟩ E (((w5.setCell ⟨p, 3, none⟩ (.slice A5 xs.length c5)).setCell ⟨p, 4, none⟩ (.int .i64 xh)).setCell ⟨p, 5, none⟩ (.int .i64 xz)) from by
          rw [HS2.out]
          exact HG5.out.setRing xh xz hl (offb_nw hn HG3.out.sa.lt) (offb_nw hn HG3.out.rs.lt))
        have HL6 := Lib.hid (((HL5.out.offp (p := ⟨p, 3, none⟩) HO.out (.slice A5 xs.length c5)).offp (p := ⟨p, 4, none⟩) HO.out (.int .i64 xh)).offp (p := ⟨p, 5, none⟩) HO.out (.int .i64 xz))
        have HL7 := Lib.hid (show Ls (((w5.setCell ⟨p, 3, none⟩ (.slice A5 xs.length c5)).setCell ⟨p, 4, none⟩ (.int .i64 xh)).setCell ⟨p, 5, none⟩ (.int .i64 xz)) (((w5.setCell ⟨p, 3, none⟩ (.slice A5 xs.length c5)).setCell ⟨p, 4, none⟩ (.int .i64 xh)).setCell ⟨p, 5, none⟩ (.int .i64 xz)).heap.size (.slice (some ⟨b, o, none⟩) T.length c0) T from HL6.out.more (by simp))
        have HD5 := Lib.hid (show D.from ⟨A5, c5, D1.A2, D1.c2, D1.A3, D1.c3⟩ w.heap.size from HD.out.ring hn HG3.out.sa.bel.size)
        obtain ⟨⟨t0, t1, t2, t3, t4, t5, t6, t7, tl⟩, ⟨f0, f1, f2, f3, f4, f5, f6, f7⟩⟩ := HG5.out.sa.s8.all
        clear hn hl hb HG5 HL5 HL6
        go_wp2
        go_roundw
        case rel => exact ⟨k + 1, S2, _, by omega, by go_num, HS4, HG6, HL7, HD5, HO⟩
        case measure => simp [intOf]; omega
    · obtain rfl : k = T.length := by omega
      obtain ⟨U, hU⟩ : ∃ U, U = gpF S T := ⟨_, rfl⟩
      have HS1 := Lib.hid (show S1 = glF U (F.l.take 0) from by rw [HS.out, HT0.out, hU]; rfl)
      have HPF := Lib.hid (show P = glF U F.l from by rw [HPP.out, hU])
      clear HS HT0 HTN HPP hU HL HO hk hlt
      obtain ⟨X2, hX2⟩ : ∃ X2, X2 = F.l := ⟨_, rfl⟩
      have HXL := Lib.hid (show X2.length ≤ 1000 by rw [hX2]; exact HFL.out)
      have HXN := Lib.hid (fun k (hk : k < X2.length) => glF_next (S := U) hk)
      have HX0 := Lib.hid (show glF U (X2.take X2.length) = glF U X2 by rw [List.take_length])
      obtain ⟨Ax, hAx⟩ : ∃ A, A = E.A2 := ⟨_, rfl⟩
      have HEL2 := Lib.hid (fun S1 D1 W (q : GtAt w p f r S1 F D1 E W) => show El W W.heap.size (.slice Ax X2.length E.c2) X2 by rw [hX2, hAx]; exact q.fa.sr.el)
      obtain ⟨t0, t1, t2, t3, t4, t5, t6, t7, tl⟩ := HG.out.fa.s8.facts
      rw [← hX2] at t6 HS1 HPF
      rw [← hAx] at t6
      clear hX2 hAx HFL HTL HGL
      go_wp2
      clear t0 t1 t2 t3 t4 t5 t6 t7 tl
      go_loopw [8, 34] (fun _ i wr => ∃ (k : Nat) (S1 : Sh) (D1 : Sx), k ≤ X2.length ∧ i = .int .i64 k ∧ Hid (S1 = glF U (X2.take k)) ∧ Hid (GtAt w p f r S1 F D1 E wr) ∧ Hid (D.from D1 w.heap.size)) (fun _ i _ => X2.length - (intOf i).toNat)
      case atStart => exact ⟨0, S1, D1, Nat.zero_le _, rfl, HS1, HG, HD⟩
      case round =>
        clear HG HD HS1
        obtain ⟨k, S1, D1, hk, rfl, HS, HG, HD⟩ := hrel
        by_cases hlt : k < X2.length
        · obtain ⟨b, o, rfl, hbl, c0', c1', c2', c3', c4', c5', c6', c7'⟩ := (HEL2.out _ _ _ HG.out).at_ hlt
          have HTK := Lib.hid (HXN.out k hlt)
          generalize X2[k] = X at *
          have hl64 : (X2.length : Int) ≤ 1000 := by have := HXL.out; omega
          have HGA := Lib.hid (HG.out.alloc (.cells #[.int .i64 X.m.id, .int .i64 X.m.rt, .int .i64 X.m.ep, .int .i64 X.m.ct, .int .i64 X.m.gn, .int .i64 X.m.st, .string X.m.bd, .int .i64 X.dl] 68))
          have HMX := Lib.hid (El8.start wr X 68)
          have HPQ := Lib.hid (show ¬ wr.heap.size = p ∧ ¬ p = wr.heap.size by have := HG.out.sa.lt; omega)
          obtain ⟨t0, t1, t2, t3, t4, t5, t6, t7, tl⟩ := HG.out.sa.s8.facts
          go_wp2_with fail
          clear t0 t1 t2 t3 t4 t5 t6 t7 tl c0' c1' c2' c3' c4' c5' c6' c7' hbl HG
          obtain ⟨q, hq⟩ : ∃ q, q = wr.heap.size := ⟨_, rfl⟩
          rw [← hq] at HMX HPQ ⊢
          clear hq
          generalize wr.alloc (.cells #[.int .i64 X.m.id, .int .i64 X.m.rt, .int .i64 X.m.ep, .int .i64 X.m.ct, .int .i64 X.m.gn, .int .i64 X.m.st, .string X.m.bd, .int .i64 X.dl] 68) = wa at *
          refine (shas_any S1 D1 X.m.rt wa).mono ?_
          rintro e w3 ⟨rfl, hb⟩
          have HG3 := Lib.hid (HGA.out.below hb)
          have HM3 := Lib.hid (HMX.out.below hb HMX.out.2.2.2.2.2.2.2.2)
          have HML := Lib.hid (show q < w3.heap.size from Nat.lt_of_lt_of_le HMX.out.2.2.2.2.2.2.2.2 hb.size)
          clear hb HGA HMX
          cases hw : wi X.m.rt S1.lo S1.hi with
          | false =>
            have HS4 := Lib.hid (show S1 = glF U (X2.take (k + 1)) by rw [HTK.out, ← HS.out, gl_no hw])
            clear hw
            go_wp2
            go_roundw
            case rel => exact ⟨k + 1, S1, D1, by omega, by go_num, HS4, HG3, HD⟩
            case measure => simp [intOf]; omega
          | true =>
            have HS4 := Lib.hid (show S1.gra X = glF U (X2.take (k + 1)) by rw [HTK.out, ← HS.out, gl_yes hw])
            have HGR := Lib.hid (lgrant_any D1.A2 S1.l.length D1.c2 S1.l D1.A3 S1.h.length D1.c3 S1.h X w3 HG3.out.sa.sr.el HG3.out.sa.sr.dl)
            obtain ⟨S2, hS2⟩ : ∃ S2, S2 = S1.gra X := ⟨_, rfl⟩
            rw [← hS2] at HS4
            have HS2 := Lib.hid (show S2 = ⟨S1.lv, S1.lo, S1.hi, S1.cs, S1.hd, S1.sz, grL S1.l S1.h X, grH S1.l S1.h X⟩ from hS2)
            clear hS2 hw
            generalize grL S1.l S1.h X = gl at *
            generalize grH S1.l S1.h X = gh at *
            generalize grE S1.l S1.h X = ge' at *
            obtain ⟨t0, t1, t2, t3, t4, t5, t6, t7, tl⟩ := HG3.out.sa.s8.facts
            obtain ⟨v0, v1, v2, v3, v4, v5, v6, v7, -⟩ := HM3.out
            have vl := HML.out
            go_wp2_with fail
            clear t0 t1 t2 t3 t4 t5 t6 t7 tl v0 v1 v2 v3 v4 v5 v6 v7 vl
            refine HGR.out.mono ?_
            rintro e w5 ⟨A8, c8, A9, c9, rfl, n8, n9, h8, h9, hb⟩
            have HG5 := Lib.hid (HG3.out.below hb)
            have HG6 := Lib.hid (show GtAt w p f r S2 F ⟨D1.A, D1.c, A8, c8, A9, c9⟩ E ((w5.setCell ⟨p, 6, none⟩ (.slice A8 gl.length c8)).setCell ⟨p, 7, none⟩ (.slice A9 gh.length c9)) from by
              rw [HS2.out]
              exact HG5.out.setTab h8 h9 (offb_nw n8 HG3.out.sa.lt) (offb_nw n9 HG3.out.sa.lt) (offb_nw n8 HG3.out.rs.lt) (offb_nw n9 HG3.out.rs.lt))
            have HD5 := Lib.hid (show D.from ⟨D1.A, D1.c, A8, c8, A9, c9⟩ w.heap.size from HD.out.tab n8 n9 HG3.out.sa.bel.size)
            obtain ⟨⟨t0, t1, t2, t3, t4, t5, t6, t7, tl⟩, ⟨f0, f1, f2, f3, f4, f5, f6, f7⟩⟩ := HG5.out.sa.s8.all
            clear n8 n9 h8 h9 hb HG5
            go_wp2
            go_roundw
            case rel => exact ⟨k + 1, S2, _, by omega, by go_num, HS4, HG6, HD5⟩
            case measure => simp [intOf]; omega
        · obtain rfl : k = X2.length := by omega
          have HF := Lib.hid (show GA w D P (.returned (sv S1 D1)) (set8s wr r S1 D1) from by
            rw [HPF.out, ← HX0.out, ← HS.out]
            exact ⟨D1, rfl, HD.out, SR.sets HG.out.ro (S1.l8 D1) 0 wr HG.out.sa.sr, set8s_below HPW.out.2 HG.out.sa.bel S1 D1⟩)
          have HPR := Lib.hid (show ¬ p = r ∧ ¬ r = p by have := HG.out.ne; omega)
          obtain ⟨⟨t0, t1, t2, t3, t4, t5, t6, t7, tl⟩, ⟨f0, f1, f2, f3, f4, f5, f6, f7⟩⟩ := HG.out.sa.s8.all
          obtain ⟨⟨r0, r1, r2, r3, r4, r5, r6, r7, rl⟩, ⟨g0, g1, g2, g3, g4, g5, g6, g7⟩⟩ := HG.out.rs.all
          obtain ⟨hpr, hrp⟩ := HPR.out
          go_wp2
          exact bodyPost_ret (v := sv S1 D1) (by simp only [results, Tryz.results79]; go_simp <;> rfl) rfl HF.out
end Go.Proofs.YtkkgfnncdaiooaaGreat
namespace Go.Proofs.YtkkgfnncdaiooaaGreat
open Go.RowKit
set_option linter.unusedVariables false

theorem info_m8 : (Tryz.prog.info? 57).map (fun i => (i.zero, i.size, i.bytes)) = some (some (Msg.v zM), 7, 64) := by kernel_rfl
theorem mgrow_none (w : World) : Calls Tryz.prog 180 #[.slice none 0 0, .int .i64 0] w fun e w' => e = .returned (.slice none 0 0) ∧ w = w' := by
  go_enter Tryz.func180, Tryz.ntmps180
  go_wp2
  go_ret
  exact ⟨rfl, rfl⟩

set_option maxHeartbeats 1000000 in
theorem mgrow_some (n : Nat) (w : World) (h0 : 0 < n) (hn : n ≤ 1000000) : Calls Tryz.prog 180 #[.slice none 0 0, .int .i64 n] w fun e w' =>
    ∃ v, e = .returned v ∧ w'.ownsRow w.heap.size 57 7 v 0 [] ∧ Below w.heap.size w w' := by
  obtain ⟨i0, hi0, hzz⟩ := Option.map_eq_some_iff.1 info_m8
  simp only [Prod.mk.injEq] at hzz
  obtain ⟨hz0, hz1, hz2⟩ := hzz
  have h1 : ¬ ((n : Int) < 0) := by omega
  have h4 : (n : Int) > 0 := by omega
  have hold : (Builtin.firstCells i0.size 0 (.slice none 0 0)).run Tryz.prog w.drew = .ok #[] w.drew := run_firstCells_none w.drew i0.size 0 0 0
  have hrz : ∀ ty, (Builtin.append_ #[25, 3] ty #[.slice none 0 0, .int .i64 (n : Int)]).run Tryz.prog w =
      .ok (.slice (some ⟨w.heap.size, 0, none⟩) n (grownCap w n 0 57)) (w.drew.alloc (.cells (#[] ++ Builtin.zeroCells (Msg.v zM).cells n ++ Builtin.zeroCells (Msg.v zM).cells (grownCap w n 0 57 - n)) 57)) := fun ty => by
    have h := Lib.run_append_grow_zeros (P := Tryz.prog) w 25 3 ty 57 i0 (Msg.v zM) .i64 .i64 Tryz.underlying25 Tryz.underlying3 hi0 hz0 none 0 0 [] hold n (by omega) (by omega) (by omega) (by omega)
      (by rw [hz2]; omega)
      (by rw [Nat.zero_add]; exact growslice_fits (by omega) (by rw [hz2]; omega))
    simpa only [Nat.zero_add] using h
  have hGn : n ≤ grownCap w n 0 57 := grownCap_ge w _ _ _
  have hGm : grownCap w n 0 57 ≤ maxLen := grownCap_le_maxLen w n 0 57 (by unfold maxLen; omega)
  obtain ⟨G, hG⟩ : ∃ G, G = grownCap w n 0 57 := ⟨_, rfl⟩
  rw [← hG] at hrz hGn hGm
  have hG63 : G ≤ 9223372036854775807 := by unfold maxLen at hGm; omega
  have HM := Lib.hid hGm
  clear hold hG hGm
  go_enter Tryz.func180, Tryz.ntmps180
  go_wp2_with (at_builtin; refine Lib.wpList_append_run _ rfl _ _ _ _ rfl _ _ rfl rfl _ _ (hrz _) ?_)
  go_ret
  refine ⟨_, rfl, ?_, ?_⟩
  · exact World.ownsRow_made (w := w.drew) _ G (Nat.le_refl _) HM.out (by simp [Builtin.zeroCells]; omega)
  · exact (Below.refl _ _).drew.alloc (Nat.le_refl _) _

theorem mgrow_any (n : Nat) (w : World) (hn : n ≤ 1000000) : Calls Tryz.prog 180 #[.slice none 0 0, .int .i64 n] w fun e w' =>
    ∃ v, e = .returned v ∧ w'.ownsRow w.heap.size 57 7 v 0 [] ∧ Below w.heap.size w w' := by
  rcases Nat.eq_zero_or_pos n with rfl | h
  · exact (mgrow_none w).mono fun _ _ ⟨he, hw⟩ => ⟨_, he, by subst hw; exact World.ownsRow_nil _ _ _ _, by subst hw; exact Below.refl _ _⟩
  · exact mgrow_some n w h hn

def mtot : List (Value × List Msg) → List Msg
  | [] => []
  | p :: r => p.2 ++ mtot r

theorem mtot_take (ps : List (Value × List Msg)) (k : Nat) (h : k < ps.length) : mtot (ps.take (k + 1)) = mtot (ps.take k) ++ ps[k].2 := by
  induction ps generalizing k with
  | nil => simp at h
  | cons p r ih =>
    cases k with
    | zero => simp [mtot]
    | succ k => simp only [List.take_succ_cons, mtot, List.getElem_cons_succ, List.append_assoc]; rw [ih k (by simpa using h)]

theorem mtot_le (ps : List (Value × List Msg)) (k : Nat) : (mtot (ps.take k)).length ≤ (mtot ps).length := by
  induction ps generalizing k with
  | nil => simp [mtot]
  | cons p r ih =>
    cases k with
    | zero => simp [mtot]
    | succ k => simp only [List.take_succ_cons, mtot, List.length_append]; have := ih k; omega

set_option maxRecDepth 20000 in
set_option maxHeartbeats 2000000 in
theorem mconcat_any (vb vo c : Nat) (ps : List (Value × List Msg)) (w : World) (hb : vb < w.heap.size) (hc : ∀ k (h : k < ps.length), w.cell? ⟨vb, vo + k, none⟩ = some ps[k].1)
    (hps : ∀ k (h : k < ps.length), Ls w w.heap.size ps[k].1 ps[k].2) (hn : ps.length ≤ 1024) (ht : (mtot ps).length ≤ 1000000) :
    Calls Tryz.prog 139 #[.slice (some ⟨vb, vo, none⟩) ps.length c] w fun e w' =>
      ∃ v, e = .returned v ∧ w'.ownsRow w.heap.size 57 7 v (mtot ps).length (lcs (mtot ps)) ∧ Below w.heap.size w w' := by
  obtain ⟨i0, hi0, hzz⟩ := Option.map_eq_some_iff.1 info_m8
  simp only [Prod.mk.injEq] at hzz
  obtain ⟨hz0, hz1, hz2⟩ := hzz
  obtain ⟨L, hL⟩ : ∃ L, L = ps.length := ⟨_, rfl⟩
  have HL := Lib.hid hL
  rw [← hL]
  have hL' : L ≤ 1024 := by omega
  have HC := Lib.hid hc
  have HP := Lib.hid hps
  clear hL hc hps
  go_enter Tryz.func139, Tryz.ntmps139
  go_wp2
  go_loop [3, 5, 11] (fun s _ i => ∃ k : Nat, k ≤ L ∧ i = .int .i64 k ∧ s = .int .i64 (mtot (ps.take k)).length) (fun _ _ i => L - (intOf i).toNat)
  case atStart => exact ⟨0, Nat.zero_le _, rfl, rfl⟩
  case round =>
    obtain ⟨k, hk, rfl, rfl⟩ := hrel
    have hle := mtot_le ps k
    by_cases hlt : k < L
    · have hkp : k < ps.length := by have := HL.out; omega
      have hcell := HC.out k hkp
      have HT := Lib.hid (congrArg List.length (mtot_take ps k hkp))
      have hle1 := mtot_le ps (k + 1)
      obtain ⟨A, c1, hA, _, _, hR⟩ := HP.out k hkp
      rw [hA] at hcell
      have HA := Lib.hid hA
      have HR := Lib.hid hR
      have hlen : (ps[k].2).length ≤ 1000000 := by have := HT.out; simp at this; omega
      clear hA hR
      go_wp2
      go_round
      case rel => exact ⟨k + 1, by omega, by go_num, by rw [HT.out]; simp⟩
      case measure => simp [intOf]; omega
    · obtain rfl : k = L := by omega
      have HE := Lib.hid (show ps.take k = ps by rw [HL.out]; simp)
      have hge : ((mtot (ps.take k)).length : Int) ≤ 1000000 := by omega
      go_wp2_with fail
      refine (mgrow_any (mtot (ps.take k)).length w (by omega)).mono ?_
      rintro e w1 ⟨v1, rfl, hown1, hb1⟩
      have Hown1 := Lib.hid hown1
      have Hb1 := Lib.hid hb1
      clear hown1 hb1
      go_wp2
      clear hle hge
      have hk' : k ≤ 1024 := hL'
      go_loopw [6, 8, 27] (fun s _ i wr => ∃ j : Nat, j ≤ k ∧ i = .int .i64 j ∧ wr.ownsRow w.heap.size 57 7 s (mtot (ps.take j)).length (lcs (mtot (ps.take j))) ∧ Below w.heap.size w wr) (fun _ _ i _ => k - (intOf i).toNat)
      case atStart => exact ⟨0, Nat.zero_le _, rfl, Hown1.out, Hb1.out⟩
      case round =>
        obtain ⟨j, hj, rfl, hown, hbel⟩ := hrel
        have hle := mtot_le ps j
        by_cases hlt : j < k
        · have hkp : j < ps.length := by have := HL.out; omega
          have hcell := HC.out j hkp
          have HT := Lib.hid (mtot_take ps j hkp)
          have hle1 := mtot_le ps (j + 1)
          obtain ⟨A, c1, hA, _, _, hR⟩ := HP.out j hkp
          rw [hA] at hcell
          have hlen : (mtot (ps.take j)).length + (ps[j].2).length ≤ 1000000 := by have := congrArg List.length HT.out; simp at this; omega
          rw [← hbel.cell (p := ⟨vb, vo + j, none⟩) hb] at hcell
          have HA := Lib.hid hA
          have HR := Lib.hid (hR.below hbel)
          have HO := Lib.hid hown
          have HB := Lib.hid hbel
          have hsz := hbel.size
          clear hA hR hown hbel
          go_wp2_with (at_builtin; refine wpList_append_rd _ rfl _ _ 25 rfl w.heap.size 57 i0 _ 7 64 Tryz.underlying25 hi0 hz0 hz1 hz2 rfl (by omega) _ _ _ rfl HO.out w.heap.size A _ _ _ rfl HR.out (lcs_one _) (by unfold maxLen; omega) (by omega) hsz ?_; intro v2 w2 hown2 hg2 _)
          have hown3 : w2.ownsRow w.heap.size 57 7 v2 (mtot (ps.take (j + 1))).length (lcs (mtot (ps.take (j + 1)))) := by
            rw [HT.out, lcs_app, List.length_append]; exact hown2
          have hb3 : Below w.heap.size w w2 := HB.out.grown hg2 hsz (fun g hg => (World.ownsRow.lt HO.out g hg).1)
          have H3 := Lib.hid hown3
          have HB3 := Lib.hid hb3
          clear hown2 hown3 hg2 hb3
          go_wp2
          go_roundw
          case rel => exact ⟨j + 1, by omega, by go_num, H3.out, HB3.out⟩
          case measure => simp [intOf]; omega
        · obtain rfl : j = k := by omega
          have HO := Lib.hid hown
          have HB := Lib.hid hbel
          clear hown hbel
          go_wp2
          go_ret
          exact ⟨_, rfl, by have := HO.out; rwa [HE.out] at this, HB.out⟩


structure Mc2 (W : World) (g : Nat) (v0 v1 : Value) (l0 l1 : List Msg) : Prop where
  c0 : W.cell? ⟨g, 0, none⟩ = some v0
  c1 : W.cell? ⟨g, 1, none⟩ = some v1
  lt : g < W.heap.size
  e0 : Ls W W.heap.size v0 l0
  e1 : Ls W W.heap.size v1 l1
theorem Mc2.start {w : World} {v0 v1 : Value} {l0 l1 : List Msg} (t : TypeId) (h0 : Ls w w.heap.size v0 l0) (h1 : Ls w w.heap.size v1 l1) : Mc2 (w.alloc (.cells #[v0, v1] t)) w.heap.size v0 v1 l0 l1 := by
  have hb := (Below.refl w.heap.size w).alloc (Nat.le_refl _) (.cells #[v0, v1] t)
  refine ⟨?_, ?_, by simp, (h0.below hb).more hb.size, (h1.below hb).more hb.size⟩
  · rw [World.cell?_alloc_new]; rfl
  · rw [World.cell?_alloc_new]; rfl
theorem Mc2.concat {W : World} {g : Nat} {v0 v1 : Value} {l0 l1 : List Msg} (h : Mc2 W g v0 v1 l0 l1) (c : Nat) (ht : l0.length + l1.length ≤ 1000000) :
    Calls Tryz.prog 139 #[.slice (some ⟨g, 0, none⟩) 2 c] W fun e w' => ∃ v, e = .returned v ∧ w'.ownsRow W.heap.size 57 7 v (l0 ++ l1).length (lcs (l0 ++ l1)) ∧ Below W.heap.size W w' := by
  refine (mconcat_any g 0 c [(v0, l0), (v1, l1)] W h.lt ?_ ?_ (by simp) (by simp [mtot]; omega)).mono ?_
  · intro k hk
    rw [Nat.zero_add]
    match k, hk with
    | 0, _ => exact h.c0
    | 1, _ => exact h.c1
  · intro k hk
    match k, hk with
    | 0, _ => exact h.e0
    | 1, _ => exact h.e1
  · rintro e w' ⟨v, he, ho, hb⟩
    have ht : mtot [(v0, l0), (v1, l1)] = l0 ++ l1 := by simp [mtot]
    rw [ht] at ho
    exact ⟨v, he, ho, hb⟩
end Go.Proofs.YtkkgfnncdaiooaaGreat
namespace Go.Proofs.YtkkgfnncdaiooaaGreat
open Go.RowKit
set_option linter.unusedVariables false

theorem bel_drewN {B : Nat} {a w : World} (h : Below B a w) (n : Nat) : Below B a (w.drewN n) := ⟨h.os, h.tape, h.output, h.size, h.block⟩
set_option maxHeartbeats 2000000 in
theorem rsamei_yes (A A' : Option Addr) (n n' c c' : Nat) (l : List Int) (w : World) (B B' : Nat) (hv : Nr w B (.slice A n c) l) (hv' : Nr w B' (.slice A' n' c') l) :
    Calls Tryz.prog 30 #[.slice A n c, .slice A' n' c'] w fun e w' => e = .returned (.bool true) ∧ Below w.heap.size w w' := by
  obtain ⟨rfl, hm1, hm2⟩ := hv.len
  obtain ⟨rfl, hm1', hm2'⟩ := hv'.len
  have hL : l.length ≤ 9223372036854775807 := by unfold maxLen at hm2; omega
  have HV := Lib.hid hv
  have HV' := Lib.hid hv'
  have HB := Lib.hid (Below.refl w.heap.size w)
  clear hv hm1 hm2 hv' hm1' hm2'
  go_enter Tryz.func30, Tryz.ntmps30
  go_wp2
  go_loopw [5] (fun i wr => ∃ k : Nat, k ≤ l.length ∧ i = .int .i64 k ∧ Nr wr B (.slice A l.length c) l ∧ Nr wr B' (.slice A' l.length c') l ∧ Below w.heap.size w wr) (fun i _ => l.length - (intOf i).toNat)
  case atStart => exact ⟨0, by omega, rfl, HV.out, HV'.out, HB.out⟩
  case round =>
    obtain ⟨k, hk, rfl, hv, hv', hb⟩ := hrel
    have HV := Lib.hid hv
    have HV' := Lib.hid hv'
    have HB := Lib.hid hb
    clear hv hv' hb
    by_cases hlt : k < l.length
    · obtain ⟨b, o, rfl, hb, c0⟩ := HV.out.at_ hlt
      obtain ⟨b', o', rfl, hb', d0⟩ := HV'.out.at_ hlt
      generalize l[k] = M at *
      have hne : (M != M) = false := by simp
      go_wp2
      go_quiet (fail)
      go_wp2
      go_roundw
      case rel => exact ⟨k + 1, by omega, by go_num, HV.out.drewN _, HV'.out.drewN _, bel_drewN HB.out _⟩
      case measure => simp [intOf]; omega
    · go_wp2
      go_ret
      exact ⟨rfl, HB.out⟩
end Go.Proofs.YtkkgfnncdaiooaaGreat
namespace Go.Proofs.YtkkgfnncdaiooaaGreat
open Go.RowKit
set_option linter.unusedVariables false

theorem eqm_fuel (M : Msg) (f : Nat) (W : World) : (Op.equalIn (f + 2) 57 M.v M.v).run Tryz.prog W = .ok true W := by
  have u3 := Tryz.underlying3
  have u9 := Tryz.underlying9
  have hS : Tryz.prog.underlying 57 = some (.struct (Tryz.prog.fieldsOf 57)) := by kernel_rfl
  have hp : Tryz.prog.stoodInHeld 57 = false := by kernel_rfl
  rw [show f + 2 = (f + 1) + 1 from rfl, run_equalIn_agg W (f + 1) 57 _ _ hS hp]
  simp only [Program.fieldsOf, Tryz.underlying57]
  go_simp
theorem eql_in (x : Le) (W : World) : (Op.equalIn 10000 68 x.v x.v).run Tryz.prog W = .ok true W := by
  have u3 := Tryz.underlying3
  have hS : Tryz.prog.underlying 68 = some (.struct (Tryz.prog.fieldsOf 68)) := by kernel_rfl
  have hp : Tryz.prog.stoodInHeld 68 = false := by kernel_rfl
  have hM := fun W => eqm_fuel x.m 9997 W
  rw [show (10000 : Nat) = 9999 + 1 from rfl, run_equalIn_agg W 9999 68 _ _ hS hp]
  simp only [Program.fieldsOf, Tryz.underlying68]
  go_simp
theorem eql (x : Le) : ∀ W, (binOp .eql 68 x.v x.v).run Tryz.prog W = .ok (.bool true) W := fun W => by
  rw [run_eql_struct, eql_in]; rfl
theorem neql (x : Le) : ∀ W, (binOp .neq 68 x.v x.v).run Tryz.prog W = .ok (.bool false) W := fun W => by
  rw [run_neq_struct, eql_in]; rfl
end Go.Proofs.YtkkgfnncdaiooaaGreat
