/- What is proved here: what DirectoryOwners and DirectoryHomes hold while a change is drawn and applied; ref10.index, ref10.Validate by contracts; (plain) the boxes and the growing lists of ref10.Apply. -/
import Derived.Test.YtkecnihgjepfeaaJ06
import Derived.Test.YtkecnihgjepfeaaJ07
import Derived.Test.YtkecnihgjepfeaaJ08
import Derived.Test.YtkecnihgjepfeaaJ04
import Derived.Test.YtkecnihgjepfeaaRows
import Derived.Test.YtkecnihgjepfeaaJ02
import Derived.WalkKit
import Derived.Outline
import Derived.IntWalk
import Derived.Deep.RegionHeld3
import Derived.Deep.DrawnRows
import Derived.Test.YtkecnihgjepfeaaJ05
namespace Go.Proofs.Ytkecnihgjepfeaa
open Go.RowKit
set_option linter.unusedVariables false

theorem okd_len {d : Dd} (h : vaD d = 0) : d.l.length ≤ 6 := by
  have ho := ok_va h
  have h1 := ho.rg.2.2
  have := pig d.F.length d.l.length (fun v => (sg d.l v).sh.toNat) (fun v hv => by
    have := ho.ms v hv
    show (sg d.l v).sh.toNat < d.F.length
    omega) (fun u v huv hv he => by
    have e1 := ho.ms u (by omega)
    have e2 := ho.ms v hv
    have he' : (sg d.l u).sh.toNat = (sg d.l v).sh.toNat := he
    exact ho.du ⟨u, v, huv, hv, by omega⟩)
  omega
theorem DsAt.other {w W : World} {B g p : Nat} {d : Dd} {X : Dx} (h : DsAt w B g p d X W) {a : Addr} (h1 : a.block ≠ p) (h2 : a.block ≠ g) (h3 : DOff d X a.block) (h4 : w.heap.size ≤ a.block) (v : Value) : DsAt w B g p d X (W.setCell a v) :=
  ⟨h.src.other h2 (by have := h.ne; omega) v, h.db.other h1 v, (h.dr.offp (q := a) h3 v).more (by simp), h.op, h.og, h.ne, h.bel.setCell (p := a) h4 v⟩
/-- .. and the box of the next directory, once it is made. -/
structure DnAt (w : World) (B g p : Nat) (d : Dd) (X : Dx) (oz : Option Nat) (W : World) : Prop where
  ds : DsAt w B g p d X W
  zb : ∀ z, oz = some z → Db10 W z zD10 zDx ∧ z ≠ g ∧ z ≠ p ∧ w.heap.size ≤ z ∧ DOff d X z
section
variable {w W W' : World} {B g p : Nat} {d : Dd} {X : Dx} {oz : Option Nat}
theorem DnAt.start (h : DsAt w B g p d X W) : DnAt w B g p d X none W := ⟨h, by simp⟩
theorem DnAt.below (h : DnAt w B g p d X oz W) (hb : Below W.heap.size W W') : DnAt w B g p d X oz W' := ⟨h.ds.below hb, fun z e => ⟨(h.zb z e).1.up hb, (h.zb z e).2⟩⟩
theorem DnAt.drew (h : DnAt w B g p d X oz W) : DnAt w B g p d X oz W.drew := h.below (Below.refl _ _).drew
theorem DnAt.turn (h : DnAt w B g p d X oz W) (hs : SrcAt W' B g) (hg : W.grownBy W' (some g)) : DnAt w B g p d X oz W' := ⟨h.ds.turn hs hg, fun z e => ⟨(h.zb z e).1.grown hg (h.zb z e).2.1, (h.zb z e).2⟩⟩
theorem DnAt.ax (h : DnAt w B g p d X none W) (t : TypeId) : DnAt w B g p d X (some W.heap.size) (W.alloc (.cells #[.int .i64 0, .slice none 0 0, .slice none 0 0] t)) := by
  refine ⟨h.ds.below ((Below.refl _ _).alloc (Nat.le_refl _) _), fun z e => ?_⟩
  injection e with e
  subst e
  have h1 := h.ds.src.2.1
  have h2 := h.ds.db.lt
  have h3 := h.ds.bel.size
  exact ⟨Db10.zero W t, by omega, by omega, h3, h.ds.dr.offs (Nat.le_refl _)⟩
theorem DnAt.xf {z : Nat} (h : DnAt w B g p d X (some z) W) : Db10 W z zD10 zDx ∧ z ≠ g ∧ z ≠ p := ⟨(h.zb z rfl).1, (h.zb z rfl).2.1, (h.zb z rfl).2.2.1⟩
theorem DnAt.k3 (h : DnAt w B g p d X oz W) {u : World} (hb : Below (p + 1) W u) : K3 p d X u := by
  obtain ⟨⟨x0, x1, x2, xl⟩, -⟩ := h.ds.db.all
  exact ⟨(hb.cell (p := ⟨p, 0, none⟩) (Nat.lt_succ_self p)).trans x0, (hb.cell (p := ⟨p, 1, none⟩) (Nat.lt_succ_self p)).trans x1, (hb.cell (p := ⟨p, 2, none⟩) (Nat.lt_succ_self p)).trans x2⟩
end
section
variable {w W W' : World} {B g p : Nat} {d d' : Dd} {X Y : Dx}
end
end Go.Proofs.Ytkecnihgjepfeaa
namespace Go.Proofs.Ytkecnihgjepfeaa
open Go.RowKit
set_option linter.unusedVariables false

set_option maxHeartbeats 2000000 in
theorem rindex10_any (d : Dd) (X : Dx) (s : Int) (w : World) (hd : DR w w.heap.size d X) :
    Calls Try.prog 25 #[dv d X, .int .i64 s] w fun e w' => e = .returned (.int .i64 (ixS d.l s)) ∧ Below w.heap.size w w' := by
  have H0 := Lib.hid (DAt.start 40 hd)
  have hL : d.l.length ≤ 9223372036854775807 := by have h2 := hd.pl.len.2.2; have h1 := hd.pl.len.2.1; unfold maxLen at h2; omega
  obtain ⟨p, hp⟩ : ∃ p, p = w.heap.size := ⟨_, rfl⟩
  have HPP := Lib.hid hp
  clear hd hp
  go_enter Try.func25, Try.ntmps25
  go_wp2
  have H0 := Lib.hid (show DAt w p d X (w.alloc (.cells #[.int .i64 d.vn, .slice X.A d.l.length X.c, .slice X.A2 d.F.length X.c2] 40)) from by rw [HPP.out]; exact H0.out)
  rw [← HPP.out]
  generalize w.alloc (.cells #[.int .i64 d.vn, .slice X.A d.l.length X.c, .slice X.A2 d.F.length X.c2] 40) = w0 at *
  go_loopw [5] (fun i wr => ∃ k : Nat, k ≤ d.l.length ∧ i = .int .i64 k ∧ wr = w0 ∧ ∀ j, j < k → (sg d.l j).sh ≠ s) (fun i _ => d.l.length - (intOf i).toNat)
  case atStart => exact ⟨0, by omega, rfl, rfl, fun j h => absurd h (by omega)⟩
  case round =>
    obtain ⟨k, hk, rfl, rfl, hno⟩ := hrel
    have HN := Lib.hid hno
    clear hno
    obtain ⟨⟨x0, x1, x2, xl⟩, -⟩ := H0.out.db.all
    by_cases hlt : k < d.l.length
    · obtain ⟨b, o, hA, hbl, c0, c1, c2⟩ := H0.out.dr.pl.atg hlt
      rw [hA] at x1
      clear hA
      by_cases he : (sg d.l k).sh = s
      · have HR := Lib.hid (ixS_hit hlt he HN.out)
        have heq : ((sg d.l k).sh == s) = true := by simpa using he
        clear he
        generalize sg d.l k = M at *
        go_wp2
        go_ret
        exact ⟨by rw [HR.out]; rfl, H0.out.bel⟩
      · have HNN := Lib.hid (show ∀ j, j < k + 1 → (sg d.l j).sh ≠ s from fun j h => by
          by_cases e : j = k
          · rw [e]; exact he
          · exact HN.out j (by omega))
        have heq : ((sg d.l k).sh == s) = false := by simpa using he
        clear he
        generalize sg d.l k = M at *
        go_wp2
        go_roundw
        case rel => exact ⟨k + 1, by omega, by go_num, by trivial, HNN.out⟩
        case measure => simp [intOf]; omega
    · have HR := Lib.hid (ixS_none (s := s) (fun j hj => HN.out j (by omega)))
      go_wp2
      go_ret
      exact ⟨by rw [HR.out]; rfl, H0.out.bel⟩

theorem rg_not {d : Dd} (h : ¬ rgD d) : d.vn < 1 ∨ (¬ d.vn < 1 ∧ 1099511627776 < d.vn) ∨ (¬ d.vn < 1 ∧ ¬ 1099511627776 < d.vn ∧ (d.F.length : Int) < 1) ∨ (¬ d.vn < 1 ∧ ¬ 1099511627776 < d.vn ∧ ¬ (d.F.length : Int) < 1 ∧ 6 < (d.F.length : Int)) := by
  by_cases h1 : d.vn < 1
  · exact .inl h1
  · by_cases h2 : 1099511627776 < d.vn
    · exact .inr (.inl ⟨h1, h2⟩)
    · by_cases h3 : (d.F.length : Int) < 1
      · exact .inr (.inr (.inl ⟨h1, h2, h3⟩))
      · by_cases h4 : 6 < (d.F.length : Int)
        · exact .inr (.inr (.inr ⟨h1, h2, h3, h4⟩))
        · exact absurd ⟨⟨by omega, by omega⟩, by omega, by omega⟩ h
/-- The cells that a comparison of an index loads. -/
abbrev IxK (p : Nat) (d : Dd) (X : Dx) (b o n c : Nat) (s : Int) (k : Nat) (W : World) : Prop := W.cell? ⟨p, 0, none⟩ = some (.int .i64 d.vn) ∧ W.cell? ⟨p, 1, none⟩ = some (.slice (some ⟨b, o, none⟩) n c) ∧ W.cell? ⟨p, 2, none⟩ = some (.slice X.A2 d.F.length X.c2) ∧ W.cell? ⟨b, o + k * 3 + 2, none⟩ = some (.int .i64 s)
/-- A number as a result, nothing old turned. -/
abbrev VlX (w : World) (x : Int) (e : Ending) (w' : World) : Prop := e = .returned (.int .i64 x) ∧ Below w.heap.size w w'
set_option maxHeartbeats 8000000 in
set_option maxRecDepth 20000 in
theorem rvalid10_any (d : Dd) (X : Dx) (w : World) (hd : DR w w.heap.size d X) :
    Calls Try.prog 24 #[dv d X] w (VlX w (vaD d)) := by
  have H0 := Lib.hid (DAt.start 40 hd)
  have HIX := Lib.hid (fun p s W (k : DAt w p d X W) => rindex10_any d X s W k.dr)
  have hL : d.l.length ≤ 9223372036854775807 := by have h2 := hd.pl.len.2.2; have h1 := hd.pl.len.2.1; unfold maxLen at h2; omega
  obtain ⟨p, hp⟩ : ∃ p, p = w.heap.size := ⟨_, rfl⟩
  obtain ⟨V, hV⟩ : ∃ V, V = vaD d := ⟨_, rfl⟩
  rw [← hV]
  have HVV := Lib.hid hV
  have HPP := Lib.hid hp
  clear hd hV hp
  by_cases hr : rgD d
  · have hv1 : ¬ d.vn < 1 := by have := hr.1.1; omega
    have hv2 : ¬ 1099511627776 < d.vn := by have := hr.1.2; omega
    have hn1 : ¬ (d.F.length : Int) < 1 := by have := hr.2.1; omega
    have hn2 : ¬ 6 < (d.F.length : Int) := by have := hr.2.2; omega
    have HRG := Lib.hid hr
    clear hr
    go_enter Try.func24, Try.ntmps24
    go_wp2
    have H0 := Lib.hid (show DAt w p d X (w.alloc (.cells #[.int .i64 d.vn, .slice X.A d.l.length X.c, .slice X.A2 d.F.length X.c2] 40)) from by rw [HPP.out]; exact H0.out)
    rw [← HPP.out]
    generalize w.alloc (.cells #[.int .i64 d.vn, .slice X.A d.l.length X.c, .slice X.A2 d.F.length X.c2] 40) = w0 at *
    have hn6 : d.F.length ≤ 6 := by omega
    have HZ := Lib.hid (nxD_zero d.l)
    clear hv1 hv2 hn1 hn2
    go_loopw [4, 5] (fun nx i wr => ∃ k : Nat, k ≤ d.l.length ∧ i = .int .i64 k ∧ nx = .int .i64 (nxD d.l k) ∧ Hid (DAt w p d X wr) ∧ ∀ j, j < k → spK d.l j) (fun _ i _ => d.l.length - (intOf i).toNat)
    case atStart => exact ⟨0, by omega, rfl, by rw [HZ.out], H0, fun j h => absurd h (by omega)⟩
    case round =>
      clear H0
      obtain ⟨k, hk, rfl, rfl, HD, hno⟩ := hrel
      have HN := Lib.hid hno
      clear hno
      obtain ⟨⟨x0, x1, x2, xl⟩, -⟩ := HD.out.db.all
      by_cases hlt : k < d.l.length
      · obtain ⟨b, o, hA, hbl, c0, c1, c2⟩ := HD.out.dr.pl.atg hlt
        rw [hA] at x1
        clear hA
        have HB := Lib.hid (HD.out.alloc (.cells #[.int .i64 (sg d.l k).lo, .int .i64 (sg d.l k).hi, .int .i64 (sg d.l k).sh] 44))
        have HX := Lib.hid (nxD_succ d.l k)
        by_cases hs : spK d.l k
        · have HNN := Lib.hid (show ∀ j, j < k + 1 → spK d.l j from fun j h => by
            by_cases e : j = k
            · rw [e]; exact hs
            · exact HN.out j (by omega))
          have h0 : 0 ≤ (sg d.l k).lo := by
            rw [hs.1]
            cases k with
            | zero => rw [nxD_zero]; omega
            | succ k =>
              rw [nxD_succ]
              have hq : ∀ j, j < k + 1 → 0 ≤ (sg d.l j).hi + 1 := fun j => by
                induction j with
                | zero => intro hj; have a := (HN.out 0 hj).1; have b := (HN.out 0 hj).2.1; rw [nxD_zero] at a; omega
                | succ j ih => intro hj; have a := (HN.out (j + 1) hj).1; have b := (HN.out (j + 1) hj).2.1; have c := ih (by omega); rw [nxD_succ] at a; omega
              exact hq k (by omega)
          obtain ⟨h1, h2, h3⟩ := hs
          have hne : ((sg d.l k).lo != nxD d.l k) = false := by simpa using h1
          have h2' : ¬ (sg d.l k).hi < (sg d.l k).lo := by omega
          have h3' : ¬ 65536 ≤ (sg d.l k).hi := by omega
          clear h1
          generalize nxD d.l k = nk at *
          generalize sg d.l k = M at *
          go_wp2
          go_roundw
          case rel => exact ⟨k + 1, by omega, by go_num, by rw [HX.out], HB, HNN.out⟩
          case measure => simp [intOf]; omega
        · have HR := Lib.hid (vaD_cv HRG.out (cvD_no hlt hs))
          by_cases h1 : (sg d.l k).lo = nxD d.l k
          · have hne : ((sg d.l k).lo != nxD d.l k) = false := by simpa using h1
            by_cases h2 : (sg d.l k).hi < (sg d.l k).lo
            · clear h1 hs
              generalize nxD d.l k = nk at *
              generalize sg d.l k = M at *
              go_wp2
              go_ret
              exact ⟨by rw [HVV.out, HR.out]; rfl, HB.out.bel⟩
            · have h3 : 65536 ≤ (sg d.l k).hi := by
                apply Classical.byContradiction
                intro h3
                exact hs ⟨h1, by omega, by omega⟩
              clear h1 hs
              generalize nxD d.l k = nk at *
              generalize sg d.l k = M at *
              go_wp2
              go_ret
              exact ⟨by rw [HVV.out, HR.out]; rfl, HB.out.bel⟩
          · have hne : ((sg d.l k).lo != nxD d.l k) = true := bne_iff_ne.2 h1
            clear h1 hs
            generalize nxD d.l k = nk at *
            generalize sg d.l k = M at *
            go_wp2
            go_ret
            exact ⟨by rw [HVV.out, HR.out]; rfl, HB.out.bel⟩
      · obtain rfl : k = d.l.length := by omega
        have HCV := Lib.hid (cvD_end HN.out)
        by_cases hen : nxD d.l d.l.length = 65536
        · have HC := Lib.hid (show cvD 0 d.l = true by rw [HCV.out]; exact decide_eq_true hen)
          have hne : (nxD d.l d.l.length != 65536) = false := by simpa using hen
          clear hen
          generalize nxD d.l d.l.length = nk at *
          clear hlt hk
          go_wp2
          clear x0 x1 x2 xl hne
          go_loopw [7] (fun i wr => ∃ k : Nat, k ≤ d.l.length ∧ i = .int .i64 k ∧ Hid (DAt w p d X wr) ∧ ∀ j, j < k → slotP d.F.length (sg d.l j).sh) (fun i _ => d.l.length - (intOf i).toNat)
          case atStart => exact ⟨0, by omega, rfl, HD, fun j h => absurd h (by omega)⟩
          case round =>
            clear HD HN
            obtain ⟨k, hk, rfl, HD, hno⟩ := hrel
            have HN := Lib.hid hno
            clear hno
            obtain ⟨⟨x0, x1, x2, xl⟩, -⟩ := HD.out.db.all
            by_cases hlt : k < d.l.length
            · obtain ⟨b, o, hA, hbl, c0, c1, c2⟩ := HD.out.dr.pl.atg hlt
              rw [hA] at x1
              clear hA
              by_cases hs : slotP d.F.length (sg d.l k).sh
              · have HNN := Lib.hid (show ∀ j, j < k + 1 → slotP d.F.length (sg d.l j).sh from fun j h => by
                  by_cases e : j = k
                  · rw [e]; exact hs
                  · exact HN.out j (by omega))
                have h1 : ¬ (sg d.l k).sh < 0 := by have := hs.1; omega
                have h2 : ¬ (d.F.length : Int) ≤ (sg d.l k).sh := by have := hs.2; omega
                clear hs
                generalize sg d.l k = M at *
                go_wp2
                go_roundw
                case rel => exact ⟨k + 1, by omega, by go_num, HD, by have := HNN.out; simpa using this⟩
                case measure => simp [intOf]; omega
              · have HR := Lib.hid (vaD_ms HRG.out HC.out (msD_no hlt hs))
                by_cases h1 : (sg d.l k).sh < 0
                · clear hs
                  generalize sg d.l k = M at *
                  go_wp2
                  go_ret
                  exact ⟨by rw [HVV.out, HR.out]; rfl, HD.out.bel⟩
                · have h2 : (d.F.length : Int) ≤ (sg d.l k).sh := by
                    apply Classical.byContradiction
                    intro h2
                    exact hs ⟨by omega, by omega⟩
                  clear hs
                  generalize sg d.l k = M at *
                  go_wp2
                  go_ret
                  exact ⟨by rw [HVV.out, HR.out]; rfl, HD.out.bel⟩
            · have HM := Lib.hid (msD_iff.2 (fun j hj => HN.out j (by omega) : ∀ j, j < d.l.length → slotP d.F.length (sg d.l j).sh))
              obtain rfl : k = d.l.length := by omega
              clear hlt hk
              go_wp2
              clear x0 x1 x2 xl
              go_loopw [8] (fun i wr => ∃ k : Nat, k ≤ d.l.length ∧ i = .int .i64 k ∧ Hid (DAt w p d X wr) ∧ ∀ j : Nat, j < k → ixS d.l (sg d.l j).sh = (j : Int)) (fun i _ => d.l.length - (intOf i).toNat)
              case atStart => exact ⟨0, by omega, rfl, HD, fun j h => absurd h (by omega)⟩
              case round =>
                clear HD HN
                obtain ⟨k, hk, rfl, HD, hno⟩ := hrel
                have HN := Lib.hid hno
                clear hno
                obtain ⟨⟨x0, x1, x2, xl⟩, -⟩ := HD.out.db.all
                by_cases hlt : k < d.l.length
                · obtain ⟨b, o, hA, hbl, c0, c1, c2⟩ := HD.out.dr.pl.atg hlt
                  have HA := Lib.hid hA
                  have HI := Lib.hid (fun W h => HIX.out p (sg d.l k).sh W h)
                  rw [hA] at x1
                  clear hA
                  have HKA := Lib.hid (fun W (h : Below wr.heap.size wr W) => show IxK p d X b o (d.l.length) X.c (sg d.l k).sh k W from ⟨(HD.out.below h).db.c0, (h.cell (p := ⟨p, 1, none⟩) HD.out.db.lt).trans x1, (HD.out.below h).db.c2, (h.cell (p := ⟨b, o + k * 3 + 2, none⟩) hbl).trans c2⟩)
                  have HB0 := Lib.hid (Below.refl wr.heap.size wr)
                  have HDD := Lib.hid HD.out.drew
                  by_cases he : ixS d.l (sg d.l k).sh = (k : Int)
                  · have HNN := Lib.hid (show ∀ j : Nat, j < k + 1 → ixS d.l (sg d.l j).sh = (j : Int) from fun j h => by
                      by_cases e : j = k
                      · rw [e]; exact he
                      · exact HN.out j (by omega))
                    rw [he] at HI
                    clear he
                    generalize sg d.l k = M at *
                    go_wp2_with fail
                    rw [← HA.out] at x1
                    go_region_held3 (fun W => IxK p d X b o (d.l.length) X.c M.sh k W)
                      ((refine HKA.out _ ?_; repeat' (first | with_reducible exact HB0.out | with_reducible exact HB1.out | with_reducible refine Below.drew ?_)))
                      (first | (go_at_call 25; rw [← HA.out]; (with_reducible refine (HI.out _ HDD.out).mono ?_); rintro e w5 ⟨rfl, hb⟩; have HD5 := Lib.hid (HDD.out.below hb); have HB1 := Lib.hid (((HB0.out.drew).trans hb)); clear hb))
                    go_wp2
                    go_roundw
                    case rel => exact ⟨k + 1, by omega, by go_num, HD5, HNN.out⟩
                    case measure => simp [intOf]; omega
                  · have HR := Lib.hid (vaD_du HRG.out HC.out HM.out (duB_yes (du_ix hlt he)))
                    have hne : (ixS d.l (sg d.l k).sh != (k : Int)) = true := bne_iff_ne.2 he
                    clear he
                    generalize sg d.l k = M at *
                    generalize ixS d.l M.sh = r at *
                    go_wp2_with fail
                    rw [← HA.out] at x1
                    go_region_held3 (fun W => IxK p d X b o (d.l.length) X.c M.sh k W)
                      ((refine HKA.out _ ?_; repeat' (first | with_reducible exact HB0.out | with_reducible exact HB1.out | with_reducible refine Below.drew ?_)))
                      (first | (go_at_call 25; rw [← HA.out]; (with_reducible refine (HI.out _ HDD.out).mono ?_); rintro e w5 ⟨rfl, hb⟩; have HD5 := Lib.hid (HDD.out.below hb); have HB1 := Lib.hid (((HB0.out.drew).trans hb)); clear hb))
                    go_wp2
                    go_ret
                    exact ⟨by rw [HVV.out, HR.out]; rfl, HD5.out.bel⟩
                · have HU := Lib.hid (duB_no (du_ixn (l := d.l) (fun j hj => HN.out j (by omega))))
                  obtain rfl : k = d.l.length := by omega
                  clear hlt hk
                  go_wp2
                  clear x0 x1 x2 xl
                  go_loopw [9] (fun i wr => ∃ k : Nat, k ≤ d.F.length ∧ i = .int .i64 k ∧ Hid (DAt w p d X wr) ∧ ∀ j : Nat, j < k → f1D d.l d.F j) (fun i _ => d.F.length - (intOf i).toNat)
                  case atStart => exact ⟨0, by omega, rfl, HD, fun j h => absurd h (by omega)⟩
                  case round =>
                    clear HD HN
                    obtain ⟨k, hk, rfl, HD, hno⟩ := hrel
                    have HN := Lib.hid hno
                    clear hno
                    obtain ⟨⟨x0, x1, x2, xl⟩, -⟩ := HD.out.db.all
                    by_cases hlt : k < d.F.length
                    · have hltI : (k : Int) < (d.F.length : Int) := by omega
                      obtain ⟨b, o, hA, hbl, c0⟩ := HD.out.dr.fl.atg hlt
                      have HA := Lib.hid hA
                      have HI := Lib.hid (fun W h => HIX.out p (k : Int) W h)
                      have HBD := Lib.hid (fun (h : ¬ f1D d.l d.F k) => vaD_fo HRG.out HC.out HM.out HU.out (foB_no (fun hf => h (hf.1 k hlt))))
                      rw [hA] at x2
                      clear hA
                      by_cases h1 : ig d.F k < -1
                      · have HR := Lib.hid (HBD.out (fun hf => by have := hf.1.1; omega))
                        generalize ig d.F k = y at *
                        go_wp2
                        go_ret
                        exact ⟨by rw [HVV.out, HR.out]; rfl, HD.out.bel⟩
                      · by_cases h2 : (d.F.length : Int) ≤ ig d.F k
                        · have HR := Lib.hid (HBD.out (fun hf => by have := hf.1.2; omega))
                          generalize ig d.F k = y at *
                          go_wp2
                          go_ret
                          exact ⟨by rw [HVV.out, HR.out]; rfl, HD.out.bel⟩
                        · by_cases hh : hasS d.l (k : Int)
                          · by_cases h3 : ig d.F k = -1
                            · have HNN := Lib.hid (show ∀ j : Nat, j < k + 1 → f1D d.l d.F j from fun j h => by
                                by_cases e : j = k
                                · rw [e]; exact ⟨⟨by omega, by omega⟩, fun _ => h3⟩
                                · exact HN.out j (by omega))
                              have hge : 0 ≤ ixS d.l (k : Int) := hh
                              rw [h3] at c0
                              clear h1 h2 hh h3
                              generalize ixS d.l (k : Int) = r at *
                              go_wp2_with fail
                              rw [← HA.out]
                              refine (HI.out _ HD.out).mono ?_
                              rintro e w5 ⟨rfl, hb⟩
                              have HD5 := Lib.hid (HD.out.below hb)
                              have c5 := (hb.cell (p := ⟨b, o + k, none⟩) hbl).trans c0
                              clear hb
                              obtain ⟨⟨y0, y1, y2, yl⟩, -⟩ := HD5.out.db.all
                              rw [HA.out] at y2
                              go_wp2
                              go_roundw
                              case rel => exact ⟨k + 1, by omega, by go_num, HD5, HNN.out⟩
                              case measure => simp [intOf]; omega
                            · have HR := Lib.hid (HBD.out (fun hf => h3 (hf.2 hh)))
                              have hne : (ig d.F k != -1) = true := bne_iff_ne.2 h3
                              have hge : 0 ≤ ixS d.l (k : Int) := hh
                              clear hh h3
                              generalize ixS d.l (k : Int) = r at *
                              generalize ig d.F k = y at *
                              go_wp2_with fail
                              rw [← HA.out]
                              refine (HI.out _ HD.out).mono ?_
                              rintro e w5 ⟨rfl, hb⟩
                              have HD5 := Lib.hid (HD.out.below hb)
                              have c5 := (hb.cell (p := ⟨b, o + k, none⟩) hbl).trans c0
                              clear hb
                              obtain ⟨⟨y0, y1, y2, yl⟩, -⟩ := HD5.out.db.all
                              rw [HA.out] at y2
                              go_wp2
                              go_ret
                              exact ⟨by rw [HVV.out, HR.out]; rfl, HD5.out.bel⟩
                          · have HNN := Lib.hid (show ∀ j : Nat, j < k + 1 → f1D d.l d.F j from fun j h => by
                              by_cases e : j = k
                              · rw [e]; exact ⟨⟨by omega, by omega⟩, fun h3 => absurd h3 hh⟩
                              · exact HN.out j (by omega))
                            rw [(ixS_neg hh).1] at HI
                            clear hh
                            generalize ig d.F k = y at *
                            go_wp2_with fail
                            rw [← HA.out]
                            refine (HI.out _ HD.out).mono ?_
                            rintro e w5 ⟨rfl, hb⟩
                            have HD5 := Lib.hid (HD.out.below hb)
                            clear hb
                            go_wp2
                            go_roundw
                            case rel => exact ⟨k + 1, by omega, by go_num, HD5, HNN.out⟩
                            case measure => simp [intOf]; omega
                    · have HF1 := Lib.hid (show ∀ j : Nat, j < d.F.length → f1D d.l d.F j from fun j hj => HN.out j (by omega))
                      obtain rfl : k = d.F.length := by omega
                      clear hlt hk
                      go_wp2
                      clear x0 x1 x2 xl
                      go_loopw [10] (fun i wr => ∃ k : Nat, k ≤ d.F.length ∧ i = .int .i64 k ∧ Hid (DAt w p d X wr) ∧ ∀ j : Nat, j < k → fwD d.F d.F.length (j : Int) < 0) (fun i _ => d.F.length - (intOf i).toNat)
                      case atStart => exact ⟨0, by omega, rfl, HD, fun j h => absurd h (by omega)⟩
                      case round =>
                        clear HD HN
                        obtain ⟨k, hk, rfl, HD, hno⟩ := hrel
                        have HN := Lib.hid hno
                        clear hno
                        by_cases hlt : k < d.F.length
                        · have hltI : (k : Int) < (d.F.length : Int) := by omega
                          go_wp2
                          go_loopw [11, 12] (fun a c wz => ∃ (m : Nat) (t : Int), m ≤ d.F.length ∧ c = .int .i64 m ∧ a = .int .i64 t ∧ (-1 ≤ t ∧ t < d.F.length) ∧ fwD d.F (d.F.length - m) t = fwD d.F d.F.length (k : Int) ∧ Hid (DAt w p d X wz)) (fun _ c _ => d.F.length - (intOf c).toNat)
                          case atStart => exact ⟨0, (k : Int), by omega, rfl, rfl, ⟨by omega, by omega⟩, by rw [Nat.sub_zero], HD⟩
                          case round =>
                            clear HD
                            obtain ⟨m, t, hm, rfl, rfl, ht, hfw, HD⟩ := hrel
                            have HFW := Lib.hid hfw
                            clear hfw
                            obtain ⟨⟨x0, x1, x2, xl⟩, -⟩ := HD.out.db.all
                            by_cases hml : m < d.F.length
                            · have hmlI : (m : Int) < (d.F.length : Int) := by omega
                              by_cases ht0 : 0 ≤ t
                              · obtain ⟨j, rfl⟩ := Int.eq_ofNat_of_zero_le ht0
                                have hj : j < d.F.length := by omega
                                obtain ⟨b, o, hA, hbl, c0⟩ := HD.out.dr.fl.atg hj
                                rw [hA] at x2
                                clear hA
                                have HNX := Lib.hid (show fwD d.F (d.F.length - (m + 1)) (ig d.F j) = fwD d.F d.F.length (k : Int) from by
                                  rw [← HFW.out, show d.F.length - m = (d.F.length - (m + 1)) + 1 by omega, fwD_pos _ ht0]; rfl)
                                have HYB := Lib.hid (HF1.out j hj).1
                                clear ht
                                generalize ig d.F j = y at *
                                go_wp2
                                go_roundw
                                case rel => exact ⟨m + 1, y, by omega, by go_num, rfl, HYB.out, HNX.out, HD⟩
                                case measure => simp [intOf]; omega
                              · have hlt0 : fwD d.F d.F.length (k : Int) < 0 := by rw [← HFW.out, fwD_neg _ (by omega)]; omega
                                have HNN := Lib.hid (show ∀ j : Nat, j < k + 1 → fwD d.F d.F.length (j : Int) < 0 from fun j h => by
                                  by_cases e : j = k
                                  · rw [e]; exact hlt0
                                  · exact HN.out j (by omega))
                                clear hlt0 ht
                                go_wp2
                                go_roundw
                                case rel => exact ⟨k + 1, by omega, by go_num, HD, HNN.out⟩
                                case measure => simp [intOf]; omega
                            · have hml' : ¬ (m : Int) < (d.F.length : Int) := by omega
                              have hfz : fwD d.F d.F.length (k : Int) = t := by rw [← HFW.out, show d.F.length - m = 0 by omega]; rfl
                              by_cases ht0 : 0 ≤ t
                              · have HR := Lib.hid (vaD_fo HRG.out HC.out HM.out HU.out (foB_no (fun hf => by have := hf.2 k hlt; omega)))
                                clear hfz ht
                                go_wp2
                                go_ret
                                exact ⟨by rw [HVV.out, HR.out]; rfl, HD.out.bel⟩
                              · have HNN := Lib.hid (show ∀ j : Nat, j < k + 1 → fwD d.F d.F.length (j : Int) < 0 from fun j h => by
                                  by_cases e : j = k
                                  · rw [e, hfz]; omega
                                  · exact HN.out j (by omega))
                                clear hfz ht
                                go_wp2
                                go_roundw
                                case rel => exact ⟨k + 1, by omega, by go_num, HD, HNN.out⟩
                                case measure => simp [intOf]; omega
                        · have HR := Lib.hid (vaD_ok HRG.out HC.out HM.out HU.out (foB_yes ⟨HF1.out, fun j hj => HN.out j (by omega)⟩))
                          go_wp2
                          go_ret
                          exact ⟨by rw [HVV.out, HR.out]; rfl, HD.out.bel⟩
        · have HC := Lib.hid (show cvD 0 d.l = false by rw [HCV.out]; exact decide_eq_false hen)
          have hne : (nxD d.l d.l.length != 65536) = true := bne_iff_ne.2 hen
          have HR := Lib.hid (vaD_cv HRG.out HC.out)
          clear hen
          generalize nxD d.l d.l.length = nk at *
          go_wp2
          go_ret
          exact ⟨by rw [HVV.out, HR.out]; rfl, HD.out.bel⟩
  · have HR := Lib.hid (vaD_1 hr)
    rcases rg_not hr with h1 | ⟨h1, h2⟩ | ⟨h1, h2, h3⟩ | ⟨h1, h2, h3, h4⟩ <;> clear hr
    all_goals
      go_enter Try.func24, Try.ntmps24
      go_wp2
      go_ret
      exact ⟨by rw [HVV.out, HR.out]; rfl, H0.out.bel⟩
end Go.Proofs.Ytkecnihgjepfeaa
namespace Go.Proofs.Ytkecnihgjepfeaa
open Go.RowKit
set_option linter.unusedVariables false

/-- The cells of the argument and of the change that the indices are asked with. -/
abbrev K5 (p q : Nat) (d : Dd) (X : Dx) (e : Ed) (W : World) : Prop := K3 p d X W ∧ W.cell? ⟨q, 1, none⟩ = some (.int .i64 e.fr) ∧ W.cell? ⟨q, 2, none⟩ = some (.int .i64 e.to)
theorem Ab.k5 {w W : World} {p q r : Nat} {d : Dd} {X : Dx} {e : Ed} (h : Ab w p q r d X e W) : K5 p q d X e W := ⟨h.da.k, h.eb.c1, h.eb.c2⟩
/-- The next directory while its lists grow. -/
structure Rz (w : World) (p q r y : Nat) (d : Dd) (X : Dx) (e : Ed) (L : List Sp) (F : List Int) (Y : Dx) (W : World) : Prop where
  ab : Ab w p q r d X e W
  xb : Db10 W y ⟨d.vn + 1, L, F⟩ Y
  ol : W.ownsRow (r + 1) 44 3 (.slice Y.A L.length Y.c) L.length (scs L)
  of : W.ownsRow (r + 1) 3 1 (.slice Y.A2 F.length Y.c2) F.length (ics F)
  d1 : ∀ k, (Value.slice Y.A L.length Y.c).ownBlock = some k → (Value.slice Y.A2 F.length Y.c2).ownBlock ≠ some k
  d2 : ∀ k, (Value.slice Y.A L.length Y.c).ownBlock = some k → k ≠ y
  d3 : ∀ k, (Value.slice Y.A2 F.length Y.c2).ownBlock = some k → k ≠ y
  ry : r < y
section
variable {w W W' : World} {p q r y : Nat} {d : Dd} {X Y : Dx} {e : Ed} {L : List Sp} {F : List Int} {A2 : Option Addr} {c2 : Nat}
theorem Rz.below (h : Rz w p q r y d X e L F Y W) (hb : Below W.heap.size W W') : Rz w p q r y d X e L F Y W' :=
  ⟨h.ab.below hb, h.xb.up hb, own_up10 h.ol hb, own_up10 h.of hb, h.d1, h.d2, h.d3, h.ry⟩
theorem rz_1 (h : Nx w p q r d X e none (some (.slice A2 d.F.length c2)) none W) (t : TypeId) : Rz w p q r W.heap.size d X e [] d.F ⟨none, 0, A2, c2⟩ (W.alloc (.cells #[.int .i64 (d.vn + 1), .slice none 0 0, .slice A2 d.F.length c2] t)) := by
  have k := h.below ((Below.refl _ _).alloc (Nat.le_refl _) (.cells #[.int .i64 (d.vn + 1), .slice none 0 0, .slice A2 d.F.length c2] t))
  exact ⟨k.ab, Db10.start W ⟨d.vn + 1, [], d.F⟩ ⟨none, 0, A2, c2⟩ t, World.ownsRow_nil _ _ _ _, k.ff _ rfl, fun j hj => by simp [Value.ownBlock] at hj, fun j hj => by simp [Value.ownBlock] at hj, fun j hj => by have := ((h.ff _ rfl).lt j hj).2; omega, h.ab.rb.lt⟩
theorem rz_2 {x : Nat} (h : Nx w p q r d X e none (some (.slice A2 d.F.length c2)) (some x) W) : Rz w p q r x d X e [] d.F ⟨none, 0, A2, c2⟩ (((W.setCell ⟨x, 0, none⟩ (.int .i64 (d.vn + 1))).setCell ⟨x, 1, none⟩ (.slice none 0 0)).setCell ⟨x, 2, none⟩ (.slice A2 d.F.length c2)) := by
  obtain ⟨h1, h2⟩ := h.xf
  have hn := h.ab.ne
  have o1 : ∀ (j : Nat) (v : Value) (W : World), Ab w p q r d X e W → DOff d X x → Ab w p q r d X e (W.setCell ⟨x, j, none⟩ v) := fun j v W k ho =>
    ⟨k.da.other (a := ⟨x, j, none⟩) (show x ≠ p by omega) ho (show w.heap.size ≤ x by omega) v, k.eb.other (a := ⟨x, j, none⟩) (show x ≠ q by omega) v, k.rb.other (a := ⟨x, j, none⟩) (show x ≠ r by omega) v, k.ne, k.of⟩
  have ho := h.ab.of x (by omega)
  have f2 : ∀ j k, (Value.slice A2 d.F.length c2).ownBlock = some k → k ≠ (⟨x, j, none⟩ : Addr).block := fun j k hk => h.d3 _ _ rfl rfl k hk
  exact ⟨o1 2 _ _ (o1 1 _ _ (o1 0 _ _ h.ab ho) ho) ho, h1.set ⟨d.vn + 1, [], d.F⟩ ⟨none, 0, A2, c2⟩, World.ownsRow_nil _ _ _ _, own_oth (own_oth (own_oth (h.ff _ rfl) (f2 0) _) (f2 1) _) (f2 2) _, fun j hj => by simp [Value.ownBlock] at hj, fun j hj => by simp [Value.ownBlock] at hj, fun j hj => h.d3 _ _ rfl rfl j hj, h2⟩
theorem at_world {a b : Option Value} {c : Option Nat} (_ : Nx w p q r d X e a b c W) {P : Program} {o : Oper} {a' : Act} {K : Act → World → Prop} {Q : Exit → Act → World → Prop} {E : Prop} {B : Prop} [Decidable B] (h : if B then Oper.wp P o a' W K Q else E) : if B then Oper.wp P o a' W K Q else E := h
theorem nil_below {W W' : World} (hg : W.grownBy W' (Value.ownBlock (.slice none 0 0))) : Below W.heap.size W W' := (Below.refl _ _).grown hg (Nat.le_refl _) (fun k e => by simp [Value.ownBlock] at e)
end

section
variable {w W W' : World} {p q r y : Nat} {d : Dd} {X Y : Dx} {e : Ed} {L L' : List Sp} {F : List Int} {A : Option Addr} {c : Nat} {ob : Option Nat}
theorem Ab.oth (h : Ab w p q r d X e W) (hy : r < y) (j : Nat) (v : Value) : Ab w p q r d X e (W.setCell ⟨y, j, none⟩ v) := by
  have hn := h.ne
  exact ⟨h.da.other (a := ⟨y, j, none⟩) (show y ≠ p by omega) (h.of y (by omega)) (show w.heap.size ≤ y by omega) v, h.eb.other (a := ⟨y, j, none⟩) (show y ≠ q by omega) v, h.rb.other (a := ⟨y, j, none⟩) (show y ≠ r by omega) v, h.ne, h.of⟩
theorem Pl.grownV {B n c : Nat} {A : Option Addr} {l : List Sp} {g : Nat} (h : Pl W B (.slice A n c) l) (ho : ∀ a, A = some a → 0 < n → a.block ≠ g) (hB : B ≤ W.heap.size) (hg : W.grownBy W' (some g)) : Pl W' B (.slice A n c) l := by
  obtain ⟨h1, h2, h3⟩ := h.len
  subst h1
  refine ⟨A, c, rfl, h2, h3, h.rd.1, fun hn => ?_⟩
  obtain ⟨b, o, e, hb, hc⟩ := h.rd.2 hn
  have := ho _ e hn
  exact ⟨b, o, e, hb, fun j u hu => (hg.cell_far ⟨b, o + j, none⟩ (by show b < _; omega) (fun e' => by injection e' with e'; exact this e')).trans (hc j u hu)⟩
theorem Fl.grownV {B n c : Nat} {A : Option Addr} {l : List Int} {g : Nat} (h : Fl W B (.slice A n c) l) (ho : ∀ a, A = some a → 0 < n → a.block ≠ g) (hB : B ≤ W.heap.size) (hg : W.grownBy W' (some g)) : Fl W' B (.slice A n c) l := by
  obtain ⟨h1, h2, h3⟩ := h.len
  subst h1
  refine ⟨A, c, rfl, h2, h3, h.rd.1, fun hn => ?_⟩
  obtain ⟨b, o, e, hb, hc⟩ := h.rd.2 hn
  have := ho _ e hn
  exact ⟨b, o, e, hb, fun j u hu => (hg.cell_far ⟨b, o + j, none⟩ (by show b < _; omega) (fun e' => by injection e' with e'; exact this e')).trans (hc j u hu)⟩
theorem Ab.grownV (h : Ab w p q r d X e W) (hg : W.grownBy W' ob) (hlt : ∀ k, ob = some k → r < k) : Ab w p q r d X e W' := by
  have hn := h.ne
  cases ob with
  | none => exact h.below ((Below.refl _ _).grown hg (Nat.le_refl _) (fun k e => by cases e))
  | some g =>
    have hrg := hlt g rfl
    have ho := h.of g (by omega)
    exact ⟨⟨h.da.db.grown hg (by omega), (⟨h.da.dr.pl.grownV ho.o1 (Nat.le_refl _) hg, h.da.dr.fl.grownV ho.o2 (Nat.le_refl _) hg⟩ : DR W' W.heap.size d X).more hg.size, h.da.off, h.da.bel.grown hg h.da.bel.size (fun k e => by injection e with e; omega), h.da.old⟩, h.eb.grown hg (by omega), h.rb.grown hg (by omega), h.ne, h.of⟩
/-- Another list of spans is stored. -/
theorem Rz.newL (h : Rz w p q r y d X e L F Y W) (ho : W'.ownsRow (r + 1) 44 3 (.slice A L'.length c) L'.length (scs L')) (hg : W.grownBy W' ob) (h1 : ∀ k, ob = some k → r < k ∧ k ≠ y ∧ (Value.slice Y.A2 F.length Y.c2).ownBlock ≠ some k) (h2 : ∀ k, (Value.slice A L'.length c).ownBlock = some k → ob = some k ∨ W.heap.size ≤ k) :
    (W'.cell? ⟨y, 1, none⟩ = some (.slice Y.A L.length Y.c) ∧ W'.frozen? ⟨y, 1, none⟩ = false ∧ y < W'.heap.size) ∧ Rz w p q r y d X e L' F ⟨A, c, Y.A2, Y.c2⟩ (W'.setCell ⟨y, 1, none⟩ (.slice A L'.length c)) := by
  have hry := h.ry
  have hx := h.xb.grownO hg (fun e => (h1 y e).2.1 rfl)
  have hyl := h.xb.lt
  have hf := own_farO h.of hg (fun k hk e => (h1 k e).2.2 hk)
  have hLy : ∀ k, (Value.slice A L'.length c).ownBlock = some k → k ≠ y := fun k hk => by
    rcases h2 k hk with e | e
    · exact (h1 k e).2.1
    · omega
  refine ⟨⟨hx.c1, hx.fr 1, hx.lt⟩, (h.ab.grownV hg (fun k e => (h1 k e).1)).oth hry 1 _, ⟨by simp [go_sem, hx.c0], by simp [go_sem, hx.c1], by simp [go_sem, hx.c2], fun o => by simp [go_sem, hx.fr o], by simp [hx.lt]⟩, own_oth ho hLy _, own_oth hf h.d3 _, fun k hk => ?_, hLy, h.d3, hry⟩
  rcases h2 k hk with e | e
  · exact (h1 k e).2.2
  · intro e2; have := (h.of.lt k e2).2; omega
/-- The spans of an append to the own row. -/
theorem Rz.app (h : Rz w p q r y d X e L F Y W) {m : List Sp} {v : Value} (ho : W'.ownsRow (r + 1) 44 3 v (L.length + m.length) (scs L ++ scs m)) (hg : W.grownBy W' (Value.slice Y.A L.length Y.c).ownBlock) (hat : v.ownBlock = (Value.slice Y.A L.length Y.c).ownBlock ∨ v.ownBlock = some W.heap.size) :
    ∃ A c, v = .slice A (L.length + m.length) c ∧ (W'.cell? ⟨y, 1, none⟩ = some (.slice Y.A L.length Y.c) ∧ W'.frozen? ⟨y, 1, none⟩ = false ∧ y < W'.heap.size) ∧ Rz w p q r y d X e (L ++ m) F ⟨A, c, Y.A2, Y.c2⟩ (W'.setCell ⟨y, 1, none⟩ (.slice A (L.length + m.length) c)) := by
  obtain ⟨A, c, rfl⟩ := own_form ho
  have el : (L ++ m).length = L.length + m.length := by simp
  have k := h.newL (L' := L ++ m) (A := A) (c := c) (by rw [el, scs_app]; exact ho) hg (fun k hk => ⟨by have := (h.ol.lt k hk).1; omega, h.d2 k hk, h.d1 k hk⟩) (fun k hk => by
    rw [el] at hk
    rcases hat with e | e
    · left; rw [← e]; exact hk
    · right; rw [e] at hk; injection hk with hk; omega)
  rw [el] at k
  exact ⟨A, c, rfl, k⟩
/-- A store into the forwards. -/
theorem Rz.setF (h : Rz w p q r y d X e L F Y W) {g : Nat} (hg : Y.A2 = some ⟨g, 0, none⟩) (j : Nat) (u : Int) : Rz w p q r y d X e L (F.set j u) Y (W.setCell ⟨g, j, none⟩ (.int .i64 u)) := by
  have hk : (Value.slice Y.A2 F.length Y.c2).ownBlock = some g := by rw [hg]; rfl
  have hn := h.ab.ne
  have ho := h.of
  rw [hg] at ho
  have hst := (ho.stored j (.int .i64 u)).1
  have e1 : (ics F).set j (.int .i64 u) = ics (F.set j u) := by simp [ics, List.map_set, i64v]
  rw [e1, ← hg] at hst
  have e2 : (F.set j u).length = F.length := by simp
  obtain ⟨hb, -⟩ := ho.lt g rfl
  have hgy := h.d3 g hk
  have hd := h.xb.other (a := ⟨g, j, none⟩) hgy (.int .i64 u)
  refine ⟨h.ab.oth (y := g) (by omega) j _, ⟨hd.c0, hd.c1, by have := hd.c2; rw [← e2] at this; exact this, hd.fr, hd.lt⟩, own_oth h.ol (fun k hk' e => ?_) _, by rw [← e2] at hst; exact hst, ?_, h.d2, ?_, h.ry⟩
  · have e' : k = g := e
    rw [e'] at hk'; exact h.d1 g hk' hk
  · intro k hk' e; exact h.d1 k hk' (by rw [hg] at e ⊢; exact e)
  · intro k hk'; exact h.d3 k (by rw [hg] at hk' ⊢; exact hk')
/-- The result. -/
theorem Rz.out (h : Rz w p q r y d X e L F Y W) (x : Int) : DE w.heap.size w ⟨d.vn + 1, L, F⟩ x (.returned (.tuple #[dv ⟨d.vn + 1, L, F⟩ Y, .int .i64 x])) (((W.setCell ⟨r, 0, none⟩ (.int .i64 (d.vn + 1))).setCell ⟨r, 1, none⟩ (.slice Y.A L.length Y.c)).setCell ⟨r, 2, none⟩ (.slice Y.A2 F.length Y.c2)) :=
  h.ab.out (D := ⟨d.vn + 1, L, F⟩) (Y := Y) (B := r + 1) ⟨nwv_of (nwv_own h.ol (Nat.le_refl _)), nwv_of (nwv_own h.of (Nat.le_refl _))⟩ (Nat.lt_succ_self r) ⟨Pl.of_own h.ol, Fl.of_own h.of⟩ x
end

/-- The two spans of a split. -/
def s12 (M : Sp) (e : Ed) : List Sp := [⟨M.lo, e.md, e.fr⟩, ⟨e.md + 1, M.hi, e.to⟩]
/-- The work of a split: the box of the span, the first spans' copy, the two new spans. -/
structure Rs (w : World) (p q r y u : Nat) (d : Dd) (X : Dx) (e : Ed) (F : List Int) (Y : Dx) (i : Nat) (M : Sp) (oA : Option Value) (oB : Option Nat) (W : World) : Prop where
  rz : Rz w p q r y d X e [] F Y W
  u0 : W.cell? ⟨u, 0, none⟩ = some (.int .i64 M.lo)
  u1 : W.cell? ⟨u, 1, none⟩ = some (.int .i64 M.hi)
  ul : u < W.heap.size
  yu : y < u
  fa : ∀ v, oA = some v → W.ownsRow (r + 1) 44 3 v i (scs (d.l.take i)) ∧ ∀ k, v.ownBlock = some k → u < k ∧ (Value.slice Y.A2 F.length Y.c2).ownBlock ≠ some k
  fb : ∀ b, oB = some b → Rd W W.heap.size 3 (some ⟨b, 0, none⟩) 2 (scs (s12 M e))
/-- The cells that a split reads. -/
abbrev K9 (p q u : Nat) (d : Dd) (X : Dx) (e : Ed) (M : Sp) (W : World) : Prop := (W.cell? ⟨p, 0, none⟩ = some (.int .i64 d.vn) ∧ W.cell? ⟨p, 1, none⟩ = some (.slice X.A d.l.length X.c) ∧ W.cell? ⟨p, 2, none⟩ = some (.slice X.A2 d.F.length X.c2)) ∧ W.cell? ⟨q, 1, none⟩ = some (.int .i64 e.fr) ∧ W.cell? ⟨q, 2, none⟩ = some (.int .i64 e.to) ∧ W.cell? ⟨q, 3, none⟩ = some (.int .i64 e.md) ∧ W.cell? ⟨u, 0, none⟩ = some (.int .i64 M.lo) ∧ W.cell? ⟨u, 1, none⟩ = some (.int .i64 M.hi)
section
variable {w W W' : World} {p q r y u i : Nat} {d : Dd} {X Y : Dx} {e : Ed} {F : List Int} {M : Sp} {oA : Option Value} {oB : Option Nat}
theorem Rs.below (h : Rs w p q r y u d X e F Y i M oA oB W) (hb : Below W.heap.size W W') : Rs w p q r y u d X e F Y i M oA oB W' :=
  ⟨h.rz.below hb, (hb.cell (p := ⟨u, 0, none⟩) h.ul).trans h.u0, (hb.cell (p := ⟨u, 1, none⟩) h.ul).trans h.u1, Nat.lt_of_lt_of_le h.ul hb.size, h.yu, fun v ev => ⟨own_up10 (h.fa v ev).1 hb, (h.fa v ev).2⟩, fun b eb => ((h.fb b eb).keep (fun p hp => hb.cell hp)).more hb.size⟩
theorem Rs.drew (h : Rs w p q r y u d X e F Y i M oA oB W) : Rs w p q r y u d X e F Y i M oA oB W.drew := h.below (Below.refl _ _).drew
theorem Rs.k9 (h : Rs w p q r y u d X e F Y i M oA oB W) (hb : Below (u + 1) W W') : K9 p q u d X e M W' := by
  have hn := h.rz.ab.ne
  have h1 := h.rz.ry
  have h2 := h.yu
  have hc : ∀ (a j : Nat), a ≤ u → W'.cell? ⟨a, j, none⟩ = W.cell? ⟨a, j, none⟩ := fun a j ha => hb.cell (p := ⟨a, j, none⟩) (show a < u + 1 by omega)
  exact ⟨⟨(hc p 0 (by omega)).trans h.rz.ab.da.db.c0, (hc p 1 (by omega)).trans h.rz.ab.da.db.c1, (hc p 2 (by omega)).trans h.rz.ab.da.db.c2⟩, (hc q 1 (by omega)).trans h.rz.ab.eb.c1, (hc q 2 (by omega)).trans h.rz.ab.eb.c2, (hc q 3 (by omega)).trans h.rz.ab.eb.c3, (hc u 0 (by omega)).trans h.u0, (hc u 1 (by omega)).trans h.u1⟩
theorem Rs.k9s (h : Rs w p q r y u d X e F Y i M oA oB W) (hb : Below (u + 1) W W') (v : Value) : K9 p q u d X e M (W'.setCell ⟨y, 1, none⟩ v) := by
  have hn := h.rz.ab.ne
  have h1 := h.rz.ry
  have h2 := h.yu
  obtain ⟨⟨a, b, c⟩, k1, k2, k3, k4, k5⟩ := h.k9 hb
  have o : ∀ (z j : Nat) (x : Value), z ≠ y → W'.cell? ⟨z, j, none⟩ = some x → (W'.setCell ⟨y, 1, none⟩ v).cell? ⟨z, j, none⟩ = some x := fun z j x hz hx => (World.cell?_setCell_other _ _ _ _ (fun e => by injection e with e; exact hz e.symm)).trans hx
  exact ⟨⟨o _ _ _ (by omega) a, o _ _ _ (by omega) b, o _ _ _ (by omega) c⟩, o _ _ _ (by omega) k1, o _ _ _ (by omega) k2, o _ _ _ (by omega) k3, o _ _ _ (by omega) k4, o _ _ _ (by omega) k5⟩
theorem Rs.a1 (h : Rs w p q r y u d X e F Y i M none oB W) {v : Value} (ho : W'.ownsRow W.heap.size 44 3 v i (scs (d.l.take i))) (hb : Below W.heap.size W W') : Rs w p q r y u d X e F Y i M (some v) oB W' := by
  have k := h.below hb
  have hr := h.rz.ab.rb.lt
  refine ⟨k.rz, k.u0, k.u1, k.ul, k.yu, fun v' ev => ?_, k.fb⟩
  injection ev with ev; subst ev
  refine ⟨own_low ho (by omega), fun j hj => ⟨?_, fun e2 => ?_⟩⟩
  · have := (ho.lt j hj).1; have := h.ul; omega
  · have := (ho.lt j hj).1; have := (h.rz.of.lt j e2).2; omega
theorem Rs.b1 (h : Rs w p q r y u d X e F Y i M oA none W) (t : TypeId) : Rs w p q r y u d X e F Y i M oA (some W.heap.size) (W.alloc (.cells #[.int .i64 M.lo, .int .i64 e.md, .int .i64 e.fr, .int .i64 (e.md + 1), .int .i64 M.hi, .int .i64 e.to] t)) := by
  have k := h.below ((Below.refl _ _).alloc (Nat.le_refl _) (.cells #[.int .i64 M.lo, .int .i64 e.md, .int .i64 e.fr, .int .i64 (e.md + 1), .int .i64 M.hi, .int .i64 e.to] t))
  refine ⟨k.rz, k.u0, k.u1, k.ul, k.yu, k.fa, fun b eb => ?_⟩
  injection eb with eb; subst eb
  refine ⟨rfl, fun _ => ⟨W.heap.size, 0, rfl, by simp, fun j x hx => ?_⟩⟩
  have hj : j < 6 := by have := (List.getElem?_eq_some_iff.1 hx).1; exact this
  match j, hj with
  | 0, _ => injection hx with hx; subst hx; simp [go_sem]
  | 1, _ => injection hx with hx; subst hx; simp [go_sem]
  | 2, _ => injection hx with hx; subst hx; simp [go_sem]
  | 3, _ => injection hx with hx; subst hx; simp [go_sem]
  | 4, _ => injection hx with hx; subst hx; simp [go_sem]
  | 5, _ => injection hx with hx; subst hx; simp [go_sem]
theorem Rs.app2 {v : Value} {b : Nat} (h : Rs w p q r y u d X e F Y i M (some v) (some b) W) (hi : i ≤ d.l.length) {v2 : Value} (ho : W'.ownsRow (r + 1) 44 3 v2 (i + 2) (scs (d.l.take i) ++ scs (s12 M e))) (hg : W.grownBy W' v.ownBlock) (hat : v2.ownBlock = v.ownBlock ∨ v2.ownBlock = some W.heap.size) :
    ∃ A c, v2 = .slice A (i + 2) c ∧ (W'.cell? ⟨y, 1, none⟩ = some (.slice Y.A 0 Y.c) ∧ W'.frozen? ⟨y, 1, none⟩ = false ∧ y < W'.heap.size) ∧ Rz w p q r y d X e (d.l.take i ++ s12 M e) F ⟨A, c, Y.A2, Y.c2⟩ (W'.setCell ⟨y, 1, none⟩ (.slice A (i + 2) c)) ∧ (i + 2 ≤ c ∧ c ≤ maxLen) := by
  obtain ⟨A, c, rfl⟩ := own_form ho
  have el : (d.l.take i ++ s12 M e).length = i + 2 := by simp [s12]; omega
  have h1 := h.rz.ry
  have h2 := h.yu
  have fa := h.fa v rfl
  have hl : i + 2 ≤ c ∧ c ≤ maxLen := by
    have hp : Pl W' W'.heap.size (.slice A (i + 2) c) (d.l.take i ++ s12 M e) := Pl.of_own (by rw [scs_app]; exact ho)
    have := hp.len
    omega
  have k := h.rz.newL (L' := d.l.take i ++ s12 M e) (A := A) (c := c) (by rw [el, scs_app]; exact ho) hg (fun k hk => ⟨by have := (fa.2 k hk).1; omega, by have := (fa.2 k hk).1; omega, (fa.2 k hk).2⟩) (fun k hk => by
    rw [el] at hk
    rcases hat with e | e
    · left; rw [← e]; exact hk
    · right; rw [e] at hk; injection hk with hk; omega)
  rw [el] at k
  exact ⟨A, c, rfl, k.1, k.2, hl⟩
theorem k9_set (h : K9 p q u d X e M W) (hp : p ≠ y) (hq : q ≠ y) (hu : u ≠ y) (v : Value) : K9 p q u d X e M (W.setCell ⟨y, 1, none⟩ v) := by
  obtain ⟨⟨a, b, c⟩, k1, k2, k3, k4, k5⟩ := h
  have o : ∀ (z j : Nat) (x : Value), z ≠ y → W.cell? ⟨z, j, none⟩ = some x → (W.setCell ⟨y, 1, none⟩ v).cell? ⟨z, j, none⟩ = some x := fun z j x hz hx => (World.cell?_setCell_other _ _ _ _ (fun e => by injection e with e; exact hz e.symm)).trans hx
  exact ⟨⟨o _ _ _ hp a, o _ _ _ hp b, o _ _ _ hp c⟩, o _ _ _ hq k1, o _ _ _ hq k2, o _ _ _ hq k3, o _ _ _ hu k4, o _ _ _ hu k5⟩
theorem Rs.k9g {v : Value} {W2 : World} (h : Rs w p q r y u d X e F Y i M (some v) oB W) (hg : W.grownBy W' v.ownBlock) (hb : Below (u + 1) W' W2) : K9 p q u d X e M W2 := by
  have hn := h.rz.ab.ne
  have h1 := h.rz.ry
  have h2 := h.yu
  have hul := h.ul
  have fa := (h.fa v rfl).2
  have hc : ∀ (a j : Nat), a ≤ u → W2.cell? ⟨a, j, none⟩ = W.cell? ⟨a, j, none⟩ := fun a j ha => (hb.cell (p := ⟨a, j, none⟩) (show a < u + 1 by omega)).trans (hg.cell_far ⟨a, j, none⟩ (by show a < _; omega) (fun e => by have := (fa a e.symm).1; omega))
  exact ⟨⟨(hc p 0 (by omega)).trans h.rz.ab.da.db.c0, (hc p 1 (by omega)).trans h.rz.ab.da.db.c1, (hc p 2 (by omega)).trans h.rz.ab.da.db.c2⟩, (hc q 1 (by omega)).trans h.rz.ab.eb.c1, (hc q 2 (by omega)).trans h.rz.ab.eb.c2, (hc q 3 (by omega)).trans h.rz.ab.eb.c3, (hc u 0 (by omega)).trans h.u0, (hc u 1 (by omega)).trans h.u1⟩
theorem Rs.k9gs {v : Value} {W2 : World} (h : Rs w p q r y u d X e F Y i M (some v) oB W) (hg : W.grownBy W' v.ownBlock) (x : Value) (hb : Below (u + 1) W' W2) : K9 p q u d X e M (W2.setCell ⟨y, 1, none⟩ x) := by
  have hn := h.rz.ab.ne
  have h1 := h.rz.ry
  have h2 := h.yu
  exact k9_set (h.k9g hg hb) (by omega) (by omega) (by omega) x
theorem at_rs (_ : Rs w p q r y u d X e F Y i M oA oB W) {P : Program} {o : Oper} {a' : Act} {K : Act → World → Prop} {Q : Exit → Act → World → Prop} {E : Prop} {B : Prop} [Decidable B] (h : if B then Oper.wp P o a' W K Q else E) : if B then Oper.wp P o a' W K Q else E := h
end

/-- The new span of a merge. -/
def s1m (M N : Sp) (e : Ed) : List Sp := [⟨M.lo, N.hi, e.to⟩]
/-- The work of a merge: the first spans' copy, the new span. -/
structure Rm (w : World) (p q r y : Nat) (d : Dd) (X : Dx) (e : Ed) (F : List Int) (Y : Dx) (i : Nat) (M N : Sp) (oA : Option Value) (oB : Option Nat) (W : World) : Prop where
  rz : Rz w p q r y d X e [] F Y W
  fa : ∀ v, oA = some v → W.ownsRow (r + 1) 44 3 v i (scs (d.l.take i)) ∧ ∀ k, v.ownBlock = some k → y < k ∧ (Value.slice Y.A2 F.length Y.c2).ownBlock ≠ some k
  fb : ∀ b, oB = some b → Rd W W.heap.size 3 (some ⟨b, 0, none⟩) 1 (scs (s1m M N e))
/-- The cells that a merge reads. -/
abbrev K9m (p q b o1 o2 : Nat) (d : Dd) (X : Dx) (e : Ed) (M N : Sp) (W : World) : Prop := (W.cell? ⟨p, 0, none⟩ = some (.int .i64 d.vn) ∧ W.cell? ⟨p, 1, none⟩ = some (.slice X.A d.l.length X.c) ∧ W.cell? ⟨p, 2, none⟩ = some (.slice X.A2 d.F.length X.c2)) ∧ W.cell? ⟨q, 1, none⟩ = some (.int .i64 e.fr) ∧ W.cell? ⟨q, 2, none⟩ = some (.int .i64 e.to) ∧ W.cell? ⟨b, o1, none⟩ = some (.int .i64 M.lo) ∧ W.cell? ⟨b, o2, none⟩ = some (.int .i64 N.hi)
section
variable {w W W' : World} {p q r y i b o1 o2 : Nat} {d : Dd} {X Y : Dx} {e : Ed} {F : List Int} {M N : Sp} {oA : Option Value} {oB : Option Nat}
theorem Rm.below (h : Rm w p q r y d X e F Y i M N oA oB W) (hb : Below W.heap.size W W') : Rm w p q r y d X e F Y i M N oA oB W' :=
  ⟨h.rz.below hb, fun v ev => ⟨own_up10 (h.fa v ev).1 hb, (h.fa v ev).2⟩, fun b eb => ((h.fb b eb).keep (fun p hp => hb.cell hp)).more hb.size⟩
theorem Rm.drew (h : Rm w p q r y d X e F Y i M N oA oB W) : Rm w p q r y d X e F Y i M N oA oB W.drew := h.below (Below.refl _ _).drew
theorem k9m_keep (h : K9m p q b o1 o2 d X e M N W) (hp : p ≤ y) (hq : q ≤ y) (hbb : b ≤ y) (hc : ∀ (a j : Nat), a ≤ y → W'.cell? ⟨a, j, none⟩ = W.cell? ⟨a, j, none⟩) : K9m p q b o1 o2 d X e M N W' := by
  obtain ⟨⟨a, c, f⟩, k1, k2, k4, k5⟩ := h
  exact ⟨⟨(hc p 0 hp).trans a, (hc p 1 hp).trans c, (hc p 2 hp).trans f⟩, (hc q 1 hq).trans k1, (hc q 2 hq).trans k2, (hc b o1 hbb).trans k4, (hc b o2 hbb).trans k5⟩
theorem k9m_below (h : K9m p q b o1 o2 d X e M N W) (hp : p ≤ y) (hq : q ≤ y) (hbb : b ≤ y) (hb : Below (y + 1) W W') : K9m p q b o1 o2 d X e M N W' :=
  k9m_keep h hp hq hbb (fun a j ha => hb.cell (p := ⟨a, j, none⟩) (show a < y + 1 by omega))
theorem k9m_set (h : K9m p q b o1 o2 d X e M N W) (hp : p ≠ y) (hq : q ≠ y) (hu : b ≠ y) (v : Value) : K9m p q b o1 o2 d X e M N (W.setCell ⟨y, 1, none⟩ v) := by
  obtain ⟨⟨a, c, f⟩, k1, k2, k4, k5⟩ := h
  have o : ∀ (z j : Nat) (x : Value), z ≠ y → W.cell? ⟨z, j, none⟩ = some x → (W.setCell ⟨y, 1, none⟩ v).cell? ⟨z, j, none⟩ = some x := fun z j x hz hx => (World.cell?_setCell_other _ _ _ _ (fun e => by injection e with e; exact hz e.symm)).trans hx
  exact ⟨⟨o _ _ _ hp a, o _ _ _ hp c, o _ _ _ hp f⟩, o _ _ _ hq k1, o _ _ _ hq k2, o _ _ _ hu k4, o _ _ _ hu k5⟩
theorem Rm.k9g {v : Value} (h : Rm w p q r y d X e F Y i M N (some v) oB W) (hk : K9m p q b o1 o2 d X e M N W) (hbb : b < y) (hg : W.grownBy W' v.ownBlock) : K9m p q b o1 o2 d X e M N W' := by
  have hn := h.rz.ab.ne
  have h1 := h.rz.ry
  have hyl := h.rz.xb.lt
  have fa := (h.fa v rfl).2
  exact k9m_keep (y := y) hk (by omega) (by omega) (by omega) (fun a j ha => hg.cell_far ⟨a, j, none⟩ (by show a < _; omega) (fun e => by have := (fa a e.symm).1; omega))
theorem Rm.a1 (h : Rm w p q r y d X e F Y i M N none oB W) {v : Value} (ho : W'.ownsRow W.heap.size 44 3 v i (scs (d.l.take i))) (hb : Below W.heap.size W W') : Rm w p q r y d X e F Y i M N (some v) oB W' := by
  have k := h.below hb
  have hr := h.rz.ab.rb.lt
  have hyl := h.rz.xb.lt
  refine ⟨k.rz, fun v' ev => ?_, k.fb⟩
  injection ev with ev; subst ev
  refine ⟨own_low ho (by omega), fun j hj => ⟨?_, fun e2 => ?_⟩⟩
  · have := (ho.lt j hj).1; omega
  · have := (ho.lt j hj).1; have := (h.rz.of.lt j e2).2; omega
theorem Rm.b1 (h : Rm w p q r y d X e F Y i M N oA none W) (t : TypeId) : Rm w p q r y d X e F Y i M N oA (some W.heap.size) (W.alloc (.cells #[.int .i64 M.lo, .int .i64 N.hi, .int .i64 e.to] t)) := by
  have k := h.below ((Below.refl _ _).alloc (Nat.le_refl _) (.cells #[.int .i64 M.lo, .int .i64 N.hi, .int .i64 e.to] t))
  refine ⟨k.rz, k.fa, fun b eb => ?_⟩
  injection eb with eb; subst eb
  refine ⟨rfl, fun _ => ⟨W.heap.size, 0, rfl, by simp, fun j x hx => ?_⟩⟩
  have hj : j < 3 := by have := (List.getElem?_eq_some_iff.1 hx).1; exact this
  match j, hj with
  | 0, _ => injection hx with hx; subst hx; simp [go_sem]
  | 1, _ => injection hx with hx; subst hx; simp [go_sem]
  | 2, _ => injection hx with hx; subst hx; simp [go_sem]
theorem Rm.app2 {v : Value} {b : Nat} (h : Rm w p q r y d X e F Y i M N (some v) (some b) W) (hi : i ≤ d.l.length) {v2 : Value} (ho : W'.ownsRow (r + 1) 44 3 v2 (i + 1) (scs (d.l.take i) ++ scs (s1m M N e))) (hg : W.grownBy W' v.ownBlock) (hat : v2.ownBlock = v.ownBlock ∨ v2.ownBlock = some W.heap.size) :
    ∃ A c, v2 = .slice A (i + 1) c ∧ (W'.cell? ⟨y, 1, none⟩ = some (.slice Y.A 0 Y.c) ∧ W'.frozen? ⟨y, 1, none⟩ = false ∧ y < W'.heap.size) ∧ Rz w p q r y d X e (d.l.take i ++ s1m M N e) F ⟨A, c, Y.A2, Y.c2⟩ (W'.setCell ⟨y, 1, none⟩ (.slice A (i + 1) c)) := by
  obtain ⟨A, c, rfl⟩ := own_form ho
  have el : (d.l.take i ++ s1m M N e).length = i + 1 := by simp [s1m]; omega
  have h1 := h.rz.ry
  have fa := h.fa v rfl
  have k := h.rz.newL (L' := d.l.take i ++ s1m M N e) (A := A) (c := c) (by rw [el, scs_app]; exact ho) hg (fun k hk => ⟨by have := (fa.2 k hk).1; omega, by have := (fa.2 k hk).1; omega, (fa.2 k hk).2⟩) (fun k hk => by
    rw [el] at hk
    rcases hat with e | e
    · left; rw [← e]; exact hk
    · right; rw [e] at hk; injection hk with hk; omega)
  rw [el] at k
  exact ⟨A, c, rfl, k.1, k.2⟩
abbrev K9n (p q b o1 o2 : Nat) (A : Option Addr) (d : Dd) (X : Dx) (e : Ed) (M N : Sp) (W : World) : Prop := (W.cell? ⟨p, 0, none⟩ = some (.int .i64 d.vn) ∧ W.cell? ⟨p, 1, none⟩ = some (.slice A d.l.length X.c) ∧ W.cell? ⟨p, 2, none⟩ = some (.slice X.A2 d.F.length X.c2)) ∧ W.cell? ⟨q, 1, none⟩ = some (.int .i64 e.fr) ∧ W.cell? ⟨q, 2, none⟩ = some (.int .i64 e.to) ∧ W.cell? ⟨b, o1, none⟩ = some (.int .i64 M.lo) ∧ W.cell? ⟨b, o2, none⟩ = some (.int .i64 N.hi)
theorem k9n_of {A : Option Addr} (hA : X.A = A) (h : K9m p q b o1 o2 d X e M N W) : K9n p q b o1 o2 A d X e M N W := by subst hA; exact h
theorem at_rm (_ : Rm w p q r y d X e F Y i M N oA oB W) {P : Program} {o : Oper} {a' : Act} {K : Act → World → Prop} {Q : Exit → Act → World → Prop} {E : Prop} {B : Prop} [Decidable B] (h : if B then Oper.wp P o a' W K Q else E) : if B then Oper.wp P o a' W K Q else E := h
end
end Go.Proofs.Ytkecnihgjepfeaa
