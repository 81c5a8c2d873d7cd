/- What is proved here: shardqueuelaw04.RingBuilt returns true for every input and leaves its arguments as they were. No condition. -/
import Derived.Test.YtiklkagkmcapnaaJ25
import Derived.Test.YtiklkagkmcapnaaJ26
import Derived.Test.YtiklkagkmcapnaaJ23
import Derived.Test.YtiklkagkmcapnaaJ15
import Derived.Test.YtiklkagkmcapnaaJ21
import Derived.Test.YtiklkagkmcapnaaJ22
import Derived.ProofKit
import Derived.OpenShut
import Derived.ShutString
import Derived.ChangeOld
namespace Go.Proofs.Ytiklkagkmcapnaa
open Go.RowKit
set_option linter.unusedVariables false

/-- With a list of messages. -/
structure BmAt (w : World) (g p Bd : Nat) (A : Option Addr) (k c : Nat) (hd sz : Int) (cs : List Msg) (Am : Option Addr) (nm cm : Nat) (lm : List Msg) (W : World) : Prop where
  bu : BuAt w g p Bd A k c hd sz cs W
  mo : Ls W Bd (.slice Am nm cm) lm
  mg : Off g Am
  mp : Off p Am
section
variable {w W W' : World} {g p Bd k c nm cm : Nat} {A Am : Option Addr} {hd sz : Int} {cs lm : List Msg}
theorem BmAt.below (h : BmAt w g p Bd A k c hd sz cs Am nm cm lm W) (hb : Below W.heap.size W W') : BmAt w g p Bd A k c hd sz cs Am nm cm lm W' := ⟨h.bu.below hb, h.mo.below (hb.mono h.bu.old.2.2), h.mg, h.mp⟩
theorem BmAt.grownG (h : BmAt w g p Bd A k c hd sz cs Am nm cm lm W) (hs : SrcAt W' w.heap.size g) (hg : W.grownBy W' (some g)) : BmAt w g p Bd A k c hd sz cs Am nm cm lm W' := ⟨h.bu.grownG hs hg, h.mo.grownG hg h.bu.old.2.2 h.mg, h.mg, h.mp⟩
theorem BmAt.drew (h : BmAt w g p Bd A k c hd sz cs Am nm cm lm W) : BmAt w g p Bd A k c hd sz cs Am nm cm lm W.drew := ⟨h.bu.drew, h.mo, h.mg, h.mp⟩
theorem BmAt.more (h : BmAt w g p Bd A k c hd sz cs Am nm cm lm W) : Ls W W.heap.size (.slice Am nm cm) lm := h.mo.more h.bu.old.2.2
theorem BmAt.s3 (h : BmAt w g p Bd A k c hd sz cs Am nm cm lm W) : W.cell? ⟨p, 0, none⟩ = some (.slice A k c) ∧ W.cell? ⟨p, 1, none⟩ = some (.int .i64 hd) ∧ W.cell? ⟨p, 2, none⟩ = some (.int .i64 sz) := h.bu.s3
theorem BmAt.setH (h : BmAt w g p Bd A k c hd sz cs Am nm cm lm W) (x : Int) : BmAt w g p Bd A k c x sz cs Am nm cm lm (W.setCell ⟨p, 1, none⟩ (.int .i64 x)) := by
  have hgp : p ≠ g := by have := h.bu.old; omega
  have hwp : w.heap.size ≤ p := by have := h.bu.old; omega
  exact ⟨⟨h.bu.src.other (p := ⟨p, 1, none⟩) hgp hwp _, h.bu.rb.setH x, h.bu.ls.off' (p := ⟨p, 1, none⟩) h.bu.offp _, h.bu.offg, h.bu.offp, h.bu.bel.setCell (p := ⟨p, 1, none⟩) hwp _, by simpa using h.bu.old⟩, h.mo.off' (p := ⟨p, 1, none⟩) h.mp _, h.mg, h.mp⟩
theorem BmAt.setS (h : BmAt w g p Bd A k c hd sz cs Am nm cm lm W) (x : Int) : BmAt w g p Bd A k c hd x cs Am nm cm lm (W.setCell ⟨p, 2, none⟩ (.int .i64 x)) := by
  have hgp : p ≠ g := by have := h.bu.old; omega
  have hwp : w.heap.size ≤ p := by have := h.bu.old; omega
  exact ⟨⟨h.bu.src.other (p := ⟨p, 2, none⟩) hgp hwp _, h.bu.rb.setS x, h.bu.ls.off' (p := ⟨p, 2, none⟩) h.bu.offp _, h.bu.offg, h.bu.offp, h.bu.bel.setCell (p := ⟨p, 2, none⟩) hwp _, by simpa using h.bu.old⟩, h.mo.off' (p := ⟨p, 2, none⟩) h.mp _, h.mg, h.mp⟩
end

theorem MRow.grownG {W W' : World} {z n g : Nat} {f : Nat → Msg} (h : MRow W z n f) (hg : W.grownBy W' (some g)) (hne : z ≠ g) : MRow W' z n f :=
  ⟨Nat.lt_of_lt_of_le h.1 hg.size, fun k hk j hj => (hg.cell_far ⟨z, k * 7 + j, none⟩ h.1 (fun e => hne (by injection e))).trans (h.2.1 k hk j hj), fun o => (hg.frozen_far ⟨z, o, none⟩ h.1 (fun e => hne (by injection e))).trans (h.2.2 o)⟩
theorem own_row {W : World} {base : Nat} {e : TypeId} {v : Value} {l : List Msg} (hown : W.ownsRow base e 7 v (0 + l.length) ([] ++ lcs l)) (h1 : 1 ≤ l.length) :
    ∃ z cap, v = .slice (some ⟨z, 0, none⟩) l.length cap ∧ base ≤ z ∧ l.length ≤ cap ∧ cap ≤ maxLen ∧ MRow W z l.length (fun i => l.getD i zM) := by
  rw [Nat.zero_add, List.nil_append] at hown
  obtain ⟨A, cap, rfl⟩ := own_form hown
  rcases hown.2 with ⟨hv, h0⟩ | ⟨g, cap', cur, hv, hgb, _, hl, hm, _⟩
  · omega
  · injection hv with e1 e2 e3
    subst e1; subst e3
    exact ⟨g, cap, rfl, hgb, hl, hm, MRow.of_own hown⟩
/-- The ring's cells are new ones. -/
theorem bm_new {w w9 W : World} {g p Bd k c nm cm z cap : Nat} {A Am : Option Addr} {hd sz : Int} {cs lm : List Msg} (h : BmAt w g p Bd A k c hd sz cs Am nm cm lm W) (hr : MRow W z k (fun i => cs.getD i zM)) (hlen : cs.length = k) (hz : p < z ∧ Bd ≤ z) (hc : k ≤ cap ∧ cap ≤ maxLen) :
    BmAt w g p W.heap.size (some ⟨z, 0, none⟩) k cap hd sz cs Am nm cm lm (W.setCell ⟨p, 0, none⟩ (.slice (some ⟨z, 0, none⟩) k cap)) ∧ MRow (W.setCell ⟨p, 0, none⟩ (.slice (some ⟨z, 0, none⟩) k cap)) z k (fun i => cs.getD i zM) ∧ Ls (W.setCell ⟨p, 0, none⟩ (.slice (some ⟨z, 0, none⟩) k cap)) Bd (.slice Am nm cm) lm := by
  have hgp : p ≠ g := by have := h.bu.old; omega
  have hwp : w.heap.size ≤ p := by have := h.bu.old; omega
  have hr' := hr.other (p := ⟨p, 0, none⟩) (show p ≠ z by omega) (.slice (some ⟨z, 0, none⟩) k cap)
  have hls : Ls (W.setCell ⟨p, 0, none⟩ (.slice (some ⟨z, 0, none⟩) k cap)) W.heap.size (.slice (some ⟨z, 0, none⟩) k cap) cs := by
    have := hr'.ls' (l := cs) (by rw [← hlen]; exact row_self cs) hc.1 hc.2
    simpa using this
  have hmo := h.mo.off' (p := ⟨p, 0, none⟩) h.mp (.slice (some ⟨z, 0, none⟩) k cap)
  exact ⟨⟨⟨h.bu.src.other (p := ⟨p, 0, none⟩) hgp hwp _, h.bu.rb.setA _ _ _, hls, fun a e => by injection e with e; subst e; show z ≠ g; have := h.bu.old; omega, fun a e => by injection e with e; subst e; show z ≠ p; omega, h.bu.bel.setCell (p := ⟨p, 0, none⟩) hwp _, h.bu.old.1, h.bu.old.2.1, by simp⟩, hmo.more h.bu.old.2.2, h.mg, h.mp⟩, hr', hmo⟩
/-- A message is stored into the ring's cells. -/
theorem bm_put {w W : World} {g p Bd Bx k nm cm z cap x : Nat} {Am : Option Addr} {hd sz : Int} {cs lm : List Msg} {f : Nat → Msg} (h : BmAt w g p Bx (some ⟨z, 0, none⟩) k cap hd sz cs Am nm cm lm W) (hr : MRow W z k f) (hmo : Ls W Bd (.slice Am nm cm) lm) (hz : p < z ∧ Bd ≤ z) (hBd : Bd ≤ W.heap.size) (hc : k ≤ cap ∧ cap ≤ maxLen) (hx : x < k) (M : Msg) :
    BmAt w g p W.heap.size (some ⟨z, 0, none⟩) k cap hd sz ((List.range k).map (fun i => if i = x then M else f i)) Am nm cm lm (set7 W z (x * 7) M) := by
  rw [set7_eq]
  have hgz : g ≠ z := by have := h.bu.old; omega
  have hpz : p ≠ z := by omega
  have hwz : w.heap.size ≤ z := by have := h.bu.old; omega
  have hs := sets_size z M.l (x * 7) W
  have hls := (hr.put hx M).ls' (l := (List.range k).map (fun i => if i = x then M else f i)) rfl hc.1 hc.2
  rw [hs] at hls
  refine ⟨⟨h.bu.src.keep (by rw [hs]; exact Nat.le_refl _) (fun o => sets_far (p := ⟨g, o, none⟩) hgz _ _) (fun o => by rw [World.frozen?_setCells]) (fun q hq => sets_far (fun e => by omega) _ _), h.bu.rb.sets (fun e => hpz e.symm) _ _, hls, h.bu.offg, h.bu.offp, sets_below hwz _ _ _ h.bu.bel, h.bu.old.1, h.bu.old.2.1, by rw [hs]; exact Nat.le_refl _⟩, (hmo.sets hz.2 _ _).more hBd, h.mg, h.mp⟩

/-- The same while the ring's cells may be written. -/
structure BqAt (w : World) (g p Bd Bx z : Nat) (k cap : Nat) (hd sz : Int) (cs : List Msg) (Am : Option Addr) (nm cm : Nat) (lm : List Msg) (f : Nat → Msg) (W : World) : Prop where
  bm : BmAt w g p Bx (some ⟨z, 0, none⟩) k cap hd sz cs Am nm cm lm W
  row : MRow W z k f
  mo : Ls W Bd (.slice Am nm cm) lm
  old : p < z ∧ Bd ≤ z ∧ Bd ≤ W.heap.size ∧ z ≠ g
theorem BqAt.drew {w W : World} {g p Bd Bx z k cap nm cm : Nat} {hd sz : Int} {cs lm : List Msg} {Am : Option Addr} {f : Nat → Msg} (h : BqAt w g p Bd Bx z k cap hd sz cs Am nm cm lm f W) : BqAt w g p Bd Bx z k cap hd sz cs Am nm cm lm f W.drew := ⟨h.bm.drew, h.row, h.mo, h.old⟩
theorem BqAt.grownG {w W W' : World} {g p Bd Bx z k cap nm cm : Nat} {hd sz : Int} {cs lm : List Msg} {Am : Option Addr} {f : Nat → Msg} (h : BqAt w g p Bd Bx z k cap hd sz cs Am nm cm lm f W) (hs : SrcAt W' w.heap.size g) (hg : W.grownBy W' (some g)) : BqAt w g p Bd Bx z k cap hd sz cs Am nm cm lm f W' :=
  ⟨h.bm.grownG hs hg, h.row.grownG hg h.old.2.2.2, h.mo.grownG hg h.old.2.2.1 h.bm.mg, h.old.1, h.old.2.1, Nat.le_trans h.old.2.2.1 hg.size, h.old.2.2.2⟩
theorem BqAt.at1 {w W : World} {g p Bd Bx z k cap nm cm x : Nat} {hd sz : Int} {cs lm : List Msg} {Am : Option Addr} {f : Nat → Msg} (h : BqAt w g p Bd Bx z k cap hd sz cs Am nm cm lm f W) (hx : x < k) : C7 W z (x * 7) (f x) ∧ (W.frozen? ⟨z, x * 7, none⟩ = false ∧ W.frozen? ⟨z, x * 7 + 1, none⟩ = false ∧ W.frozen? ⟨z, x * 7 + 2, none⟩ = false ∧ W.frozen? ⟨z, x * 7 + 3, none⟩ = false ∧ W.frozen? ⟨z, x * 7 + 4, none⟩ = false ∧ W.frozen? ⟨z, x * 7 + 5, none⟩ = false ∧ W.frozen? ⟨z, x * 7 + 6, none⟩ = false) ∧ p < W.heap.size ∧ z < W.heap.size ∧ z ≠ p ∧ p ≠ z :=
  ⟨h.row.c7 hx, h.row.free _, h.bm.bu.rb.lt, h.row.1, by have := h.old; omega, by have := h.old; omega⟩

attribute [local go_sem ↓] Go.wp_at_zero Go.wp_at_succ
set_option maxHeartbeats 32000000 in
set_option maxRecDepth 20000 in
theorem RingBuilt_walk (w : World) (a0 : Option Addr) (l0 c0 : Nat) (zs : List Int) (hz : Ns w w.heap.size (.slice a0 l0 c0) zs) :
    Calls Try.prog 4 #[.slice a0 l0 c0] w fun e w' => e = .returned (.bool true) ∧ Below w.heap.size w w' := by
  obtain ⟨i0, hi0, hz0⟩ := Option.map_eq_some_iff.1 info_msg
  simp only [Prod.mk.injEq] at hz0
  have HI := Lib.hid hi0
  have HZ := Lib.hid hz0
  have HN := Lib.hid (new_src a0 l0 c0 zs w hz)
  clear hz hi0 hz0
  go_enter Try.func4, Try.ntmps4
  go_wp2_with fail
  refine HN.out.mono ?_
  rintro e w1 ⟨g, rfl, hs, hb⟩
  have HW1 := Lib.hid hb
  have HS1 := Lib.hid hs
  clear hb hs
  go_wp2_with fail
  refine (ring_any w.heap.size g _ HS1.out 8 1 0 65535 (by omega) (by omega) (by omega) (by omega) (by omega) (by omega) (by omega)).mono ?_
  rintro e w2 ⟨A, c, k, hd, L, rfl, hnw, hl, k1, k2, hh, hL, hL8, hgd, hids, hs, hg⟩
  have HFL := Lib.hid (fil_len k hd L)
  have HW2 := Lib.hid (below_only HW1.out hg HS1.out.1 (Nat.le_refl _))
  have HB2 := Lib.hid (BuAt.mk (w := w) (g := g) (p := w2.heap.size) (Bd := w2.heap.size) (hs.alloc _) (RB.fresh w2 A k c hd L.length 24) (hl.alloc (Nat.le_refl _) _) (off_nw hnw HS1.out.2.1) (off_ls hl (by rw [fil_len]; exact k1) (Nat.le_refl _)) (HW2.out.alloc HW2.out.size (.cells #[.slice A k c, .int .i64 hd, .int .i64 L.length] 24)) ⟨HS1.out.1, hs.2.1, by simp⟩)
  obtain ⟨p, hp⟩ : ∃ p, p = w2.heap.size := ⟨_, rfl⟩
  rw [← hp] at HB2
  generalize fil k hd L = cs at *
  have hk12 : (k : Int) ≤ 12 := by omega
  have hk1 : (1 : Int) ≤ (k : Int) := by omega
  clear hnw hl hgd hids hs hg HW2 hh hL hL8
  go_wp2_with fail
  rw [← hp]
  clear hp
  generalize w2.alloc (.cells #[.slice A k c, .int .i64 hd, .int .i64 L.length] 24) = w3 at *
  refine (n_any w.heap.size g _ HB2.out.src 5 (by omega) (by omega)).mono ?_
  rintro e w4 ⟨j, rfl, j0, j1, hs, hg⟩
  obtain ⟨j, rfl⟩ := Int.eq_ofNat_of_zero_le j0
  have HB4 := Lib.hid (HB2.out.grownG hs hg)
  clear hs hg HB2
  go_wp2
  go_loopw [5, 6] (fun v iv wr => ∃ (j : Nat) (lm : List Msg), iv = .int .i64 j ∧ (lm.length : Int) + j ≤ 4 ∧ BuAt w g p p A k c hd L.length cs wr ∧ wr.ownsRow (p + 1) 26 7 v lm.length (lcs lm)) (fun _ iv _ => (intOf iv).toNat)
  case atStart => exact ⟨j, [], rfl, by simp; omega, HB4.out, World.ownsRow_nil _ _ _ _⟩
  case round =>
    rename_i v5
    obtain ⟨j, lm, rfl, hjl, hbu, hown⟩ := hrel
    obtain ⟨Av, cv, rfl⟩ := own_form hown
    have HB := Lib.hid hbu
    have HO := Lib.hid hown
    clear hbu hown
    by_cases hj : 0 < j
    · have hlm4 : lm.length ≤ 4 := by omega
      go_wp2_with fail
      refine (range2_any w.heap.size g _ HB.out.src 1 20 (by omega) (by omega) (by omega)).mono ?_
      rintro e w5 ⟨x, rfl, x0, x1, hs, hg⟩
      have HOB := Lib.hid (fun x (e : Value.ownBlock (.slice Av lm.length cv) = some x) => (HO.out.lt x e).1)
      have HGP := Lib.hid (show g < p from HB.out.old.2.1)
      have HNG := Lib.hid (show Value.ownBlock (.slice Av lm.length cv) = none ∨ Value.ownBlock (.slice Av lm.length cv) ≠ some g from .inr fun e => by have := HOB.out g e; have := HGP.out; omega)
      have HB5 := Lib.hid (HB.out.grownG hs hg)
      have HO5 := Lib.hid (HO.out.kept hg HNG.out)
      clear hs hg
      go_wp2_with fail
      refine (odd_any w.heap.size g _ HB5.out.src x 0 65535).mono ?_
      rintro e w6 ⟨M, rfl, _, hs, hg⟩
      have HB6 := Lib.hid ((HB5.out.grownG hs hg).alloc (.cells M.cs 26))
      have HO6 := Lib.hid ((HO5.out.kept hg HNG.out).alloc (.cells M.cs 26))
      have HRD := Lib.hid (rd_msg w6 M 26)
      clear hs hg
      go_wp2_with (at_builtin; refine wpList_append_rd _ rfl (.tmp 17) (.tmp 22) 22 rfl (p + 1) 26 i0 _ 7 64 Try.underlying22 HI.out HZ.out.1 HZ.out.2.1 HZ.out.2.2 rfl (by omega) (.slice Av lm.length cv) lm.length (lcs lm) rfl HO6.out (w6.heap.size + 1) (some ⟨w6.heap.size, 0, none⟩) 1 1 (lcs [M]) rfl HRD.out (lcs_one _) (by unfold maxLen; omega) (by omega) HB6.out.rb.lt ?_; intro v7 w7 hown7 hgrow7 hat7)
      have HB7 := Lib.hid (HB6.out.row hgrow7 (fun x e => by have := HOB.out x e; omega))
      have HO7 := Lib.hid (show w7.ownsRow (p + 1) 26 7 v7 (lm ++ [M]).length (lcs (lm ++ [M])) by rw [lcs_app, List.length_append]; exact hown7)
      clear hown7 hgrow7 hat7
      go_wp2
      go_roundw
      case rel => exact ⟨j - 1, lm ++ [M], by rw [show ((j - 1 : Nat) : Int) = (j : Int) - 1 by omega], by simp; omega, HB7.out, HO7.out⟩
      case measure => simp [intOf]; omega
    · obtain rfl : j = 0 := by omega
      obtain ⟨Bd, hBd⟩ : ∃ Bd, Bd = wr.heap.size := ⟨_, rfl⟩
      have HM := Lib.hid (BmAt.mk (Bd := Bd) (Am := Av) (nm := lm.length) (cm := cv) (lm := lm) ⟨HB.out.src, HB.out.rb, hBd ▸ HB.out.here, HB.out.offg, HB.out.offp, HB.out.bel, HB.out.old.1, HB.out.old.2.1, Nat.le_of_eq hBd⟩ (hBd ▸ Ls.of_own HO.out) (off_own HO.out (by have := HB.out.old.2.1; omega)) (off_own HO.out (Nat.lt_succ_self p)))
      have HBP := Lib.hid (show p < Bd by rw [hBd]; exact HB.out.rb.lt)
      clear hBd HB HO hjl hj
      generalize lm.length = nm at *
      have HSA := Lib.hid HM.out.drew.s3
      have HMA := Lib.hid HM.out.drew
      go_wp2
      go_region_held3 (fun W => W.cell? ⟨p, 0, none⟩ = some (.slice A k c) ∧ W.cell? ⟨p, 1, none⟩ = some (.int .i64 hd) ∧ W.cell? ⟨p, 2, none⟩ = some (.int .i64 L.length))
        (first | with_reducible exact HSA.out | with_reducible exact HSB.out | with_reducible exact HSC.out | with_reducible exact HSD.out | with_reducible exact HSE.out | with_reducible exact HSF.out)
        (first
        | (go_at_call 17; (with_reducible refine (range2_any w.heap.size g _ HMD.out.bu.src _ _ (by omega) (by omega) (by omega)).mono ?_); rintro e w8 ⟨x3, rfl, _, _, hs, hg⟩; have HME := Lib.hid (HMD.out.grownG hs hg); have HSE := Lib.hid HME.out.s3; clear hs hg)
        | (go_at_call 17; (with_reducible refine (range2_any w.heap.size g _ HMC.out.bu.src _ _ (by omega) (by omega) (by omega)).mono ?_); rintro e w7 ⟨x2, rfl, _, _, hs, hg⟩; have HMD := Lib.hid (HMC.out.grownG hs hg); have HSD := Lib.hid HMD.out.s3; clear hs hg)
        | (go_at_call 17; (with_reducible refine (range2_any w.heap.size g _ HMA.out.bu.src _ _ (by omega) (by omega) (by omega)).mono ?_); rintro e w5 ⟨x1, rfl, _, _, hs, hg⟩; have HMB := Lib.hid (HMA.out.grownG hs hg); have HSB := Lib.hid HMB.out.s3; clear hs hg)
        | (go_at_call 16; (with_reducible refine (odd_any w.heap.size g _ HMB.out.bu.src _ _ _).mono ?_); rintro e w6 ⟨M, rfl, _, hs, hg⟩; have HMC := Lib.hid (HMB.out.grownG hs hg); have HSC := Lib.hid HMC.out.s3; clear hs hg)
        | (go_at_call 11; (with_reducible refine (agrees_any A k c cs hd L.length M x2 x3 Av nm cv lm _ HME.out.bu.here HME.out.more).mono ?_); rintro e w9 ⟨rfl, hb⟩; have HMF := Lib.hid (HME.out.below hb); have HSF := Lib.hid HMF.out.s3; clear hb))
      have HKL := Lib.hid (show cs.length = k from HFL.out)
      have HK1 := Lib.hid (show 1 ≤ cs.length by rw [HFL.out]; exact k1)
      have hk12n : k ≤ 12 := by omega
      obtain ⟨r0, r1, r2, r3, r4, r5, hpl⟩ := HMF.out.bu.rb.facts
      clear HSA HSB HSC HSD HSE HSF HMA HMB HMC HMD HME HM
      go_wp2_with (at_builtin; refine wpList_append_rd _ rfl (.const (.slice none 0 0)) (.tmp 37) 22 rfl w9.heap.size 26 i0 _ 7 64 Try.underlying22 HI.out HZ.out.1 HZ.out.2.1 HZ.out.2.2 rfl (by omega) (.slice none 0 0) 0 [] rfl (World.ownsRow_nil _ _ _ _) Bd A k c (lcs cs) rfl HMF.out.bu.ls.rd (lcs_one _) (by unfold maxLen; omega) (by omega) (Nat.le_refl _) ?_; intro v10 w10 hown hgrow hat; have HB10 := Lib.hid ((Below.refl w9.heap.size w9).grown hgrow (Nat.le_refl _) (fun k hk => by simp [Value.ownBlock] at hk)); obtain ⟨z, cap, rfl, hz, hc1, hc2, hrow⟩ := own_row (l := cs) (show w10.ownsRow w9.heap.size 26 7 v10 (0 + cs.length) ([] ++ lcs cs) by rw [HKL.out]; exact hown) HK1.out; rw [HKL.out] at hc1 hrow ⊢; have HM10 := Lib.hid (HMF.out.below HB10.out); have HN10 := Lib.hid (bm_new (w9 := w9) HM10.out hrow HKL.out ⟨Nat.lt_of_lt_of_le HMF.out.bu.rb.lt hz, Nat.le_trans HMF.out.bu.old.2.2 hz⟩ ⟨hc1, hc2⟩); have HZZ := Lib.hid (And.intro (show p < z ∧ Bd ≤ z from ⟨Nat.lt_of_lt_of_le HMF.out.bu.rb.lt hz, Nat.le_trans HMF.out.bu.old.2.2 hz⟩) (And.intro hc1 hc2)); clear hown hgrow hat hz hc1 hc2 hrow r0 r1 r2 r3 r4 r5 hpl; obtain ⟨r0, r1, r2, r3, r4, r5, hpl⟩ := HM10.out.bu.rb.facts)
      refine (n_any w.heap.size g _ HN10.out.1.bu.src 4 (by omega) (by omega)).mono ?_
      rintro e w11 ⟨x, rfl, x0, x1, hs, hg⟩
      have HM11 := Lib.hid (HN10.out.1.grownG hs hg)
      have HGZ := Lib.hid (show z ≠ g by have := HM10.out.bu.old; have := HZZ.out.1; omega)
      have HR11 := Lib.hid (HN10.out.2.1.grownG hg HGZ.out)
      have HO11 := Lib.hid (HN10.out.2.2.grownG hg (Nat.le_trans HM10.out.bu.old.2.2 (by simp)) HM10.out.mg)
      clear hs hg HN10 HM10 HMF HB10 r0 r1 r2 r3 r4 r5 hpl
      obtain ⟨r0, r1, r2, r3, r4, r5, hpl⟩ := HM11.out.bu.rb.facts
      have hx4 : x = 0 ∨ x = 1 ∨ x = 2 ∨ x = 3 := by omega
      clear x0 x1
      rcases hx4 with rfl | rfl | rfl | rfl
      · go_wp2_with fail
        refine (range2_any w.heap.size g _ HM11.out.bu.src (-1) 13 (by omega) (by omega) (by omega)).mono ?_
        rintro e w12 ⟨y, rfl, _, _, hs, hg⟩
        have HM12 := Lib.hid (HM11.out.grownG hs hg)
        have HG := Lib.hid (HM12.out.setH y)
        clear hs hg r0 r1 r2 r3 r4 r5 hpl
        obtain ⟨r0, r1, r2, r3, r4, r5, hpl⟩ := HM12.out.bu.rb.facts
        go_wp2
        have HTA := Lib.hid HG.out.drew.s3
        have HNA := Lib.hid HG.out.drew
        clear r0 r1 r2 r3 r4 r5 hpl
        go_region_held3 (fun W => W.cell? ⟨p, 0, none⟩ = some (.slice (some ⟨z, 0, none⟩) k cap) ∧ W.cell? ⟨p, 1, none⟩ = some (.int .i64 y) ∧ W.cell? ⟨p, 2, none⟩ = some (.int .i64 L.length))
          (first | with_reducible exact HTA.out | with_reducible exact HTB.out | with_reducible exact HTC.out | with_reducible exact HTD.out | with_reducible exact HTE.out | with_reducible exact HTF.out)
          (first
          | (go_at_call 17; (with_reducible refine (range2_any w.heap.size g _ HNC.out.bu.src _ _ (by omega) (by omega) (by omega)).mono ?_); rintro e v7 ⟨u3, rfl, _, _, hs, hg⟩; have HND := Lib.hid (HNC.out.grownG hs hg); have HTD := Lib.hid HND.out.s3; clear hs hg)
          | (go_at_call 17; (with_reducible refine (range2_any w.heap.size g _ HNB.out.bu.src _ _ (by omega) (by omega) (by omega)).mono ?_); rintro e v6 ⟨u2, rfl, _, _, hs, hg⟩; have HNC := Lib.hid (HNB.out.grownG hs hg); have HTC := Lib.hid HNC.out.s3; clear hs hg)
          | (go_at_call 18; (with_reducible refine (message_any w.heap.size g _ HNA.out.bu.src _ _ _).mono ?_); rintro e v5 ⟨M5, rfl, _, _, _, _, _, _, _, hs, hg⟩; have HNB := Lib.hid (HNA.out.grownG hs hg); have HTB := Lib.hid HNB.out.s3; clear hs hg)
          | (go_at_call 11; (with_reducible refine (agrees_any (some ⟨z, 0, none⟩) k cap cs y L.length M5 u2 u3 Av nm cv lm _ HND.out.bu.here HND.out.more).mono ?_); rintro e v8 ⟨rfl, hb⟩; have HNE := Lib.hid (HND.out.below hb); have HTE := Lib.hid HNE.out.s3; clear hb)
          | (go_at_call 12; (with_reducible refine (awake4_any _).mono ?_); rintro e v9 ⟨rfl, hb⟩; have HNF := Lib.hid (HNE.out.below hb); have HTF := Lib.hid HNF.out.s3; clear hb))
        have HFIN := Lib.hid HNF.out.bu.bel
        clear HTA HTB HTC HTD HTE HTF
        go_wp2
        go_ret
        exact ⟨rfl, HFIN.out⟩
      · go_wp2_with fail
        refine (range2_any w.heap.size g _ HM11.out.bu.src (-1) 13 (by omega) (by omega) (by omega)).mono ?_
        rintro e w12 ⟨y, rfl, _, _, hs, hg⟩
        have HM12 := Lib.hid (HM11.out.grownG hs hg)
        have HG := Lib.hid (HM12.out.setS y)
        clear hs hg r0 r1 r2 r3 r4 r5 hpl
        obtain ⟨r0, r1, r2, r3, r4, r5, hpl⟩ := HM12.out.bu.rb.facts
        go_wp2
        have HTA := Lib.hid HG.out.drew.s3
        have HNA := Lib.hid HG.out.drew
        clear r0 r1 r2 r3 r4 r5 hpl
        go_region_held3 (fun W => W.cell? ⟨p, 0, none⟩ = some (.slice (some ⟨z, 0, none⟩) k cap) ∧ W.cell? ⟨p, 1, none⟩ = some (.int .i64 hd) ∧ W.cell? ⟨p, 2, none⟩ = some (.int .i64 y))
          (first | with_reducible exact HTA.out | with_reducible exact HTB.out | with_reducible exact HTC.out | with_reducible exact HTD.out | with_reducible exact HTE.out | with_reducible exact HTF.out)
          (first
          | (go_at_call 17; (with_reducible refine (range2_any w.heap.size g _ HNC.out.bu.src _ _ (by omega) (by omega) (by omega)).mono ?_); rintro e v7 ⟨u3, rfl, _, _, hs, hg⟩; have HND := Lib.hid (HNC.out.grownG hs hg); have HTD := Lib.hid HND.out.s3; clear hs hg)
          | (go_at_call 17; (with_reducible refine (range2_any w.heap.size g _ HNB.out.bu.src _ _ (by omega) (by omega) (by omega)).mono ?_); rintro e v6 ⟨u2, rfl, _, _, hs, hg⟩; have HNC := Lib.hid (HNB.out.grownG hs hg); have HTC := Lib.hid HNC.out.s3; clear hs hg)
          | (go_at_call 18; (with_reducible refine (message_any w.heap.size g _ HNA.out.bu.src _ _ _).mono ?_); rintro e v5 ⟨M5, rfl, _, _, _, _, _, _, _, hs, hg⟩; have HNB := Lib.hid (HNA.out.grownG hs hg); have HTB := Lib.hid HNB.out.s3; clear hs hg)
          | (go_at_call 11; (with_reducible refine (agrees_any (some ⟨z, 0, none⟩) k cap cs hd y M5 u2 u3 Av nm cv lm _ HND.out.bu.here HND.out.more).mono ?_); rintro e v8 ⟨rfl, hb⟩; have HNE := Lib.hid (HND.out.below hb); have HTE := Lib.hid HNE.out.s3; clear hb)
          | (go_at_call 12; (with_reducible refine (awake4_any _).mono ?_); rintro e v9 ⟨rfl, hb⟩; have HNF := Lib.hid (HNE.out.below hb); have HTF := Lib.hid HNF.out.s3; clear hb))
        have HFIN := Lib.hid HNF.out.bu.bel
        clear HTA HTB HTC HTD HTE HTF
        go_wp2
        go_ret
        exact ⟨rfl, HFIN.out⟩
      · have HQA0 := Lib.hid (show BqAt w g p Bd _ z k cap hd L.length cs Av nm cv lm (fun i => cs.getD i zM) w11 from ⟨HM11.out, HR11.out, HO11.out, HZZ.out.1.1, HZZ.out.1.2, Nat.le_trans HZZ.out.1.2 (Nat.le_of_lt HR11.out.1), HGZ.out⟩)
        have HQA := Lib.hid HQA0.out.drew
        have HKN := Lib.hid (fun W (h : SrcAt W w.heap.size g) => n_any w.heap.size g W h k (by omega) (by omega))
        have HTA := Lib.hid HQA.out.bm.s3.1
        clear HM11 HR11 HO11
        go_wp2
        go_region_held3 (fun W => W.cell? ⟨p, 0, none⟩ = some (.slice (some ⟨z, 0, none⟩) k cap))
          (first | with_reducible exact HTA.out | with_reducible exact HTB.out | with_reducible exact HTC.out | with_reducible exact HTD.out | with_reducible exact HTE.out)
          (first
          | (go_at_call 17; (with_reducible refine (range2_any w.heap.size g _ HQB.out.bm.bu.src _ _ (by omega) (by omega) (by omega)).mono ?_); rintro e y2 ⟨xr, rfl, _, _, hs, hg⟩; have HQC := Lib.hid (HQB.out.grownG hs hg); have HTC := Lib.hid HQC.out.bm.s3.1; clear hs hg)
          | (go_at_call 16; (with_reducible refine (odd_any w.heap.size g _ HQC.out.bm.bu.src _ _ _).mono ?_); rintro e y3 ⟨MM, rfl, _, hs, hg⟩; have HQD := Lib.hid (HQC.out.grownG hs hg); have HTD := Lib.hid HQD.out.bm.s3.1; have HPUT := Lib.hid (bm_put HQD.out.bm HQD.out.row HQD.out.mo ⟨HQD.out.old.1, HQD.out.old.2.1⟩ HQD.out.old.2.2.1 HZZ.out.2 hxn MM); have HTE := Lib.hid (show (((((((y3.setCell ⟨z, xi * 7, none⟩ (.int .i64 MM.id)).setCell ⟨z, xi * 7 + 1, none⟩ (.int .i64 MM.rt)).setCell ⟨z, xi * 7 + 2, none⟩ (.int .i64 MM.ep)).setCell ⟨z, xi * 7 + 3, none⟩ (.int .i64 MM.ct)).setCell ⟨z, xi * 7 + 4, none⟩ (.int .i64 MM.gn)).setCell ⟨z, xi * 7 + 5, none⟩ (.int .i64 MM.st)).setCell ⟨z, xi * 7 + 6, none⟩ (.string MM.bd)).cell? ⟨p, 0, none⟩ = some (.slice (some ⟨z, 0, none⟩) k cap) from HPUT.out.s3.1); obtain ⟨⟨e0, e1, e2, e3, e4, e5, e6⟩, ⟨g0, g1, g2, g3, g4, g5, g6⟩, q0, q1, q2, q3⟩ := HQD.out.at1 hxn; clear hs hg)
          | (go_at_call 15; (with_reducible refine (HKN.out _ HQA.out.bm.bu.src).mono ?_); rintro e y1 ⟨xi, rfl, hx0, hx1, hs, hg⟩; obtain ⟨xi, rfl⟩ := Int.eq_ofNat_of_zero_le hx0; have hxk : (xi : Int) < (k : Int) := (by omega); have hxn : xi < k := (by omega); have hxi0 : (0 : Int) ≤ (xi : Int) := (by omega); have HQB := Lib.hid (HQA.out.grownG hs hg); have HTB := Lib.hid HQB.out.bm.s3.1; clear hs hg hx1))
        have HG := Lib.hid (show BmAt w g p y3.heap.size (some ⟨z, 0, none⟩) k cap hd L.length ((List.range k).map (fun i => if i = xi then MM else cs.getD i zM)) Av nm cv lm (((((((y3.setCell ⟨z, xi * 7, none⟩ (.int .i64 MM.id)).setCell ⟨z, xi * 7 + 1, none⟩ (.int .i64 MM.rt)).setCell ⟨z, xi * 7 + 2, none⟩ (.int .i64 MM.ep)).setCell ⟨z, xi * 7 + 3, none⟩ (.int .i64 MM.ct)).setCell ⟨z, xi * 7 + 4, none⟩ (.int .i64 MM.gn)).setCell ⟨z, xi * 7 + 5, none⟩ (.int .i64 MM.st)).setCell ⟨z, xi * 7 + 6, none⟩ (.string MM.bd)) from HPUT.out)
        clear e0 e1 e2 e3 e4 e5 e6 g0 g1 g2 g3 g4 g5 g6 q0 q1 q2 q3 HTA HTB HTC HTD HTE HQA HQB HQC HQD HQA0 HPUT
        generalize ((((((y3.setCell ⟨z, xi * 7, none⟩ (.int .i64 MM.id)).setCell ⟨z, xi * 7 + 1, none⟩ (.int .i64 MM.rt)).setCell ⟨z, xi * 7 + 2, none⟩ (.int .i64 MM.ep)).setCell ⟨z, xi * 7 + 3, none⟩ (.int .i64 MM.ct)).setCell ⟨z, xi * 7 + 4, none⟩ (.int .i64 MM.gn)).setCell ⟨z, xi * 7 + 5, none⟩ (.int .i64 MM.st)).setCell ⟨z, xi * 7 + 6, none⟩ (.string MM.bd) = wq at *
        go_wp2
        have HTA := Lib.hid HG.out.drew.s3
        have HNA := Lib.hid HG.out.drew
        clear r0 r1 r2 r3 r4 r5 hpl
        go_region_held3 (fun W => W.cell? ⟨p, 0, none⟩ = some (.slice (some ⟨z, 0, none⟩) k cap) ∧ W.cell? ⟨p, 1, none⟩ = some (.int .i64 hd) ∧ W.cell? ⟨p, 2, none⟩ = some (.int .i64 L.length))
          (first | with_reducible exact HTA.out | with_reducible exact HTB.out | with_reducible exact HTC.out | with_reducible exact HTD.out | with_reducible exact HTE.out | with_reducible exact HTF.out)
          (first
          | (go_at_call 17; (with_reducible refine (range2_any w.heap.size g _ HNC.out.bu.src _ _ (by omega) (by omega) (by omega)).mono ?_); rintro e v7 ⟨u3, rfl, _, _, hs, hg⟩; have HND := Lib.hid (HNC.out.grownG hs hg); have HTD := Lib.hid HND.out.s3; clear hs hg)
          | (go_at_call 17; (with_reducible refine (range2_any w.heap.size g _ HNB.out.bu.src _ _ (by omega) (by omega) (by omega)).mono ?_); rintro e v6 ⟨u2, rfl, _, _, hs, hg⟩; have HNC := Lib.hid (HNB.out.grownG hs hg); have HTC := Lib.hid HNC.out.s3; clear hs hg)
          | (go_at_call 18; (with_reducible refine (message_any w.heap.size g _ HNA.out.bu.src _ _ _).mono ?_); rintro e v5 ⟨M5, rfl, _, _, _, _, _, _, _, hs, hg⟩; have HNB := Lib.hid (HNA.out.grownG hs hg); have HTB := Lib.hid HNB.out.s3; clear hs hg)
          | (go_at_call 11; (with_reducible refine (agrees_any (some ⟨z, 0, none⟩) k cap ((List.range k).map (fun i => if i = xi then MM else cs.getD i zM)) hd L.length M5 u2 u3 Av nm cv lm _ HND.out.bu.here HND.out.more).mono ?_); rintro e v8 ⟨rfl, hb⟩; have HNE := Lib.hid (HND.out.below hb); have HTE := Lib.hid HNE.out.s3; clear hb)
          | (go_at_call 12; (with_reducible refine (awake4_any _).mono ?_); rintro e v9 ⟨rfl, hb⟩; have HNF := Lib.hid (HNE.out.below hb); have HTF := Lib.hid HNF.out.s3; clear hb))
        have HFIN := Lib.hid HNF.out.bu.bel
        clear HTA HTB HTC HTD HTE HTF
        go_wp2
        go_ret
        exact ⟨rfl, HFIN.out⟩
      · go_wp2
        have HG := Lib.hid HM11.out
        have HTA := Lib.hid HG.out.drew.s3
        have HNA := Lib.hid HG.out.drew
        clear r0 r1 r2 r3 r4 r5 hpl
        go_region_held3 (fun W => W.cell? ⟨p, 0, none⟩ = some (.slice (some ⟨z, 0, none⟩) k cap) ∧ W.cell? ⟨p, 1, none⟩ = some (.int .i64 hd) ∧ W.cell? ⟨p, 2, none⟩ = some (.int .i64 L.length))
          (first | with_reducible exact HTA.out | with_reducible exact HTB.out | with_reducible exact HTC.out | with_reducible exact HTD.out | with_reducible exact HTE.out | with_reducible exact HTF.out)
          (first
          | (go_at_call 17; (with_reducible refine (range2_any w.heap.size g _ HNC.out.bu.src _ _ (by omega) (by omega) (by omega)).mono ?_); rintro e v7 ⟨u3, rfl, _, _, hs, hg⟩; have HND := Lib.hid (HNC.out.grownG hs hg); have HTD := Lib.hid HND.out.s3; clear hs hg)
          | (go_at_call 17; (with_reducible refine (range2_any w.heap.size g _ HNB.out.bu.src _ _ (by omega) (by omega) (by omega)).mono ?_); rintro e v6 ⟨u2, rfl, _, _, hs, hg⟩; have HNC := Lib.hid (HNB.out.grownG hs hg); have HTC := Lib.hid HNC.out.s3; clear hs hg)
          | (go_at_call 18; (with_reducible refine (message_any w.heap.size g _ HNA.out.bu.src _ _ _).mono ?_); rintro e v5 ⟨M5, rfl, _, _, _, _, _, _, _, hs, hg⟩; have HNB := Lib.hid (HNA.out.grownG hs hg); have HTB := Lib.hid HNB.out.s3; clear hs hg)
          | (go_at_call 11; (with_reducible refine (agrees_any (some ⟨z, 0, none⟩) k cap cs hd L.length M5 u2 u3 Av nm cv lm _ HND.out.bu.here HND.out.more).mono ?_); rintro e v8 ⟨rfl, hb⟩; have HNE := Lib.hid (HND.out.below hb); have HTE := Lib.hid HNE.out.s3; clear hb)
          | (go_at_call 12; (with_reducible refine (awake4_any _).mono ?_); rintro e v9 ⟨rfl, hb⟩; have HNF := Lib.hid (HNE.out.below hb); have HTF := Lib.hid HNF.out.s3; clear hb))
        have HFIN := Lib.hid HNF.out.bu.bel
        clear HTA HTB HTC HTD HTE HTF
        go_wp2
        go_ret
        exact ⟨rfl, HFIN.out⟩
/-! The row's step, as the guide's shell has it. -/
namespace ringBuilt
open Go.ChangeShapes Go.WideShapes Go.ChangeAt
open Go.ChangeMaps (open_string shut_string)
theorem own : ownKnob Try.prog.godebug = none := by kernel_rfl
theorem laidOut : laidOutB Try.prog = true := by kernel_rfl

set_option maxRecDepth 100000 in
theorem lifted (os : Os) (started : os.Started) (H : Type) (enc : TypeId × Value → H) :
    ReturnsInHanded {} Try.checked os 4 .any (Rows.ringBuiltSpec.pre6 enc Try.prog Try.f4 Rows.ringBuiltRow.domain false) (Rows.ringBuiltSpec.post enc Try.prog Try.f4 false true false false) := by
  refine returnsInHanded_of_change (C := Try.checked) own started (by kernel_rfl) Try.func4
    (ChangeSpec.witness6 (enc := enc) (C := Try.checked) false ⟨#[], #[.slice none 0 0], []⟩ 8 (by kernel_rfl) (by kernel_rfl) (by kernel_rfl) (by kernel_rfl)) ?_
  intro W base args ds gs before hval0 hW hcnd _
  have hval : ∀ (j : Nat) t v, Try.f4.params[j]? = some t → args[j]? = some v → Value.okWide Try.prog W .any base t v := hval0
  have hW' := hW
  obtain ⟨p, q, hA0, hV, rfl, hfz, hnd⟩ := hW
  have hA : DataW.TrodAll enc Try.prog W 0 (fun _ => true) true Try.f4.params.toList args.toList ds p := hA0
  rw [Try.params4] at hA hval
  obtain ⟨v0, vs0, d0, ds0, p0, q0, hargs, rfl, rfl, h0, r0⟩ := trodAll_cons hA
  obtain ⟨rfl, rfl, rfl⟩ := trodAll_nil r0
  obtain rfl : args = #[v0] := by cases args; simp_all
  obtain ⟨rfl, rfl⟩ := trodVars_none hV
  obtain ⟨a0, len0, cap0, rfl⟩ := okWide_slice Try.underlying34 (hval 0 34 v0 rfl rfl)
  have k0 := h0
  have lt0 : ∀ x ∈ p0, x.block < W.heap.size := by obtain ⟨m, hm⟩ := k0; exact DataW.trod_lt m _ _ _ hm
  obtain ⟨z0, w0⟩ : ∃ zs, Ns W W.heap.size (.slice a0 len0 cap0) zs := by
    obtain ⟨fuel, hf⟩ := h0
    rcases open_ints Try.underlying34 Try.underlying3 (by kernel_rfl) hf with ⟨hcs, _⟩ | ⟨x, l, c, zs, hcs, _, hl, hm, hz, _, hcell, hwz⟩
    · simp [Value.cells] at hcs
      obtain ⟨rfl, rfl, rfl⟩ := hcs
      exact ⟨[], Ns.nil⟩
    · simp [Value.cells] at hcs
      obtain ⟨rfl, rfl, rfl⟩ := hcs
      exact Ns.of_cells hl hm (by simpa using hz) hcell hwz
  clear hA0 hval0
  refine (RingBuilt_walk W a0 len0 cap0 z0 w0).mono fun e W' ⟨he, bel⟩ => ?_
  subst he
  exact ⟨_, rfl, _, _, _, [], _, [], hW', trodAll_mk1 (shut_bool Try.underlying4 _), (trodAll_cons_mk (Below.trod laidOut (by kernel_rfl) (of_decide_eq_true (by kernel_rfl)) k0 bel lt0) trodAll_mk0), rfl, bel.frame _, fun h => by cases h⟩

theorem over : Rows.ringBuiltRow.holds Try.pinned (OpenSpec.ofChange Rows.ringBuiltSpec) :=
  OpenClaim.holds_of_wide 4 Try.f4 rfl rfl rfl rfl rfl rfl rfl ⟨rfl, rfl, rfl, rfl, rfl⟩ rfl rfl rfl rfl rfl (by kernel_rfl) Try.func4 (by kernel_rfl)
    (of_decide_eq_true (by kernel_rfl)) (by unfold Func.isWrapper; first | (rw [if_pos (by decide +kernel)]; kernel_rfl) | (rw [if_neg (by decide +kernel)]; exact ⟨rfl, rfl⟩))
    (fun os started H enc _ => lifted os started H enc)

/-- The statement. -/
theorem proved : Rows.RingBuiltSaid := over
#print axioms proved
end ringBuilt
end Go.Proofs.Ytiklkagkmcapnaa
