/- What is proved here: slices.insertionSortCmpFunc of deadlines sorts a row; math/bits.Len of a small number returns some number; slices.SortFunc of at most twelve deadlines sorts a row. -/
import Derived.Test.YtjclhlejbidpgaaGreatJ14
import Derived.Test.YtjclhlejbidpgaaGreatJ02
namespace Go.Proofs.YtjclhlejbidpgaaGreat
open Go.RowKit
set_option linter.unusedVariables false

/-- The row is sorted. -/
def IsP (w : World) (q n : Nat) (h : List Du) (e : Ending) (w' : World) : Prop := e = .returned (.tuple #[]) ∧ ∃ g : List Du, g.Perm h ∧ Srt g ∧ RwAt w q n g w'
set_option maxHeartbeats 8000000 in
set_option maxRecDepth 20000 in
theorem isort_any (q n cap : Nat) (h : List Du) (w : World) (hr : DRow w q n (ge h)) (hn : h.length = n) (h100 : n ≤ 100) :
    Calls Tryz.prog 108 #[.slice (some ⟨q, 0, none⟩) n cap, .int .i64 0, .int .i64 n, .func (.func 70) #[] #[]] w (IsP w q n h) := by
  have H := Lib.hid (RwAt.mk hr hn (Below.refl q w))
  have hn100 : (n : Int) ≤ 100 := by omega
  clear hr hn
  go_enter Tryz.func108, Tryz.ntmps108
  go_wp2
  go_loopw [8] (fun iv wr => ∃ (i : Nat) (g : List Du), iv = .int .i64 i ∧ 1 ≤ i ∧ i ≤ 101 ∧ SrtTo h i g ∧ RwAt w q n g wr) (fun iv _ => n - (intOf iv).toNat)
  case atStart => exact ⟨1, h, rfl, Nat.le_refl _, by omega, SrtTo.start h, H.out⟩
  case round =>
    obtain ⟨i, g, rfl, hi1, hi2, hso, hra⟩ := hrel
    have HS := Lib.hid hso
    have HR := Lib.hid hra
    clear hso hra
    have hi3 : (i : Int) ≤ 101 := by omega
    by_cases hlt : i < n
    · have hlt' : (i : Int) < (n : Int) := by omega
      go_wp2
      go_loopw [9] (fun jv wr2 => ∃ (j : Nat) (g2 : List Du), jv = .int .i64 j ∧ j ≤ i ∧ Ins h i j g2 ∧ RwAt w q n g2 wr2) (fun jv _ => (intOf jv).toNat)
      case atStart => exact ⟨i, g, rfl, Nat.le_refl _, HS.out.ins, HR.out⟩
      case round =>
        obtain ⟨j, g2, rfl, hji, hin, hr2⟩ := hrel
        have HI := Lib.hid hin
        have HR2 := Lib.hid hr2
        clear hin hr2
        by_cases hj0 : 0 < j
        · obtain ⟨k, hk⟩ : ∃ k, k = j - 1 := ⟨_, rfl⟩
          have HK := Lib.hid hk
          have hw : IntKind.i64.wrap ((j : Int) - 1) = (k : Int) := by rw [IntWalk.i64_in _ (by omega)]; omega
          have hjn : j < n := by omega
          have hkn : k < n := by omega
          obtain ⟨c0, c1, f0, f1, hq⟩ := HR2.out.row.at_ hjn
          obtain ⟨d0, d1, e0, e1, -⟩ := HR2.out.row.at_ hkn
          obtain ⟨X, hX⟩ : ∃ X, ge g2 j = X := ⟨_, rfl⟩
          obtain ⟨Y, hY⟩ : ∃ Y, ge g2 k = Y := ⟨_, rfl⟩
          have HX := Lib.hid hX
          have HY := Lib.hid hY
          rw [hX] at c0 c1
          rw [hY] at d0 d1
          have HC := Lib.hid (fun w => compare_any X Y w)
          have HSA := Lib.hid (show wr.drew.cell? ⟨q, j * 2, none⟩ = some (.int .i64 X.dl) ∧ wr.drew.cell? ⟨q, j * 2 + 1, none⟩ = some (.int .i64 X.id) ∧ wr.drew.cell? ⟨q, k * 2, none⟩ = some (.int .i64 Y.dl) ∧ wr.drew.cell? ⟨q, k * 2 + 1, none⟩ = some (.int .i64 Y.id) from ⟨c0, c1, d0, d1⟩)
          have HSC := Lib.hid (fun w1 (hb1 : Below wr.drew.heap.size wr.drew w1) => show (w1.cell? ⟨q, j * 2, none⟩ = some (.int .i64 X.dl) ∧ w1.cell? ⟨q, j * 2 + 1, none⟩ = some (.int .i64 X.id) ∧ w1.cell? ⟨q, k * 2, none⟩ = some (.int .i64 Y.dl) ∧ w1.cell? ⟨q, k * 2 + 1, none⟩ = some (.int .i64 Y.id)) ∧ RwAt w q n g2 w1 from ⟨⟨(hb1.cell (p := ⟨q, j * 2, none⟩) hq).trans c0, (hb1.cell (p := ⟨q, j * 2 + 1, none⟩) hq).trans c1, (hb1.cell (p := ⟨q, k * 2, none⟩) hq).trans d0, (hb1.cell (p := ⟨q, k * 2 + 1, none⟩) hq).trans d1⟩, HR2.out.drew.below hb1⟩)
          have hj0' : (0 : Int) < (j : Int) := by omega
          have hjn' : (j : Int) < (n : Int) := by omega
          have hkn' : (k : Int) < (n : Int) := by omega
          have hgd : decide ((0 : Int) < (j : Int)) = true := decide_eq_true hj0'
          clear hX hY hk f0 f1 e0 e1
          cases hb : bef X Y with
          | true =>
            have HBB := Lib.hid (show bef (ge g2 j) (ge g2 (j - 1)) = true by rw [HX.out, ← HK.out, HY.out]; exact hb)
            have hne : ¬ j = k ∧ ¬ k = j := by have := HK.out; omega
            have HNE := Lib.hid hne
            rw [cmF_lt hb] at HC
            clear hb hne
            go_wp2
            go_region_held3 (fun W => W.cell? ⟨q, j * 2, none⟩ = some (.int .i64 X.dl) ∧ W.cell? ⟨q, j * 2 + 1, none⟩ = some (.int .i64 X.id) ∧ W.cell? ⟨q, k * 2, none⟩ = some (.int .i64 Y.dl) ∧ W.cell? ⟨q, k * 2 + 1, none⟩ = some (.int .i64 Y.id))
              (first | with_reducible exact HSA.out | with_reducible exact HSB.out)
              ((go_at_call 70; (with_reducible refine (HC.out _).mono ?_); rintro e w1 ⟨rfl, hb1⟩; obtain ⟨hs, hr⟩ := HSC.out _ hb1; have HSB := Lib.hid hs; have HR3 := Lib.hid hr; clear hb1 hs hr))
            clear c0 c1 d0 d1 hq
            obtain ⟨c0, c1, f0, f1, hq⟩ := HR3.out.row.at_ hjn
            obtain ⟨d0, d1, e0, e1, -⟩ := HR3.out.row.at_ hkn
            rw [HX.out] at c0 c1
            rw [HY.out] at d0 d1
            obtain ⟨n1, n2⟩ := HNE.out
            go_wp2
            go_region
            clear c0 c1 d0 d1 f0 f1 e0 e1 hq n1 n2
            have HR4 := Lib.hid ((HR3.out.swap hjn hkn).drew)
            rw [HX.out, HY.out] at HR4
            generalize ((((w1.setCell ⟨q, j * 2, none⟩ (.int .i64 Y.dl)).setCell ⟨q, j * 2 + 1, none⟩ (.int .i64 Y.id)).setCell ⟨q, k * 2, none⟩ (.int .i64 X.dl)).setCell ⟨q, k * 2 + 1, none⟩ (.int .i64 X.id)).drew = w2 at *
            have HI2 := Lib.hid (show Ins h i k (swp g2 j k) by rw [HK.out]; exact HI.out.step hj0 hji (by rw [HR2.out.len]; omega) HBB.out)
            go_wp2
            go_roundw
            case rel => exact ⟨k, swp g2 j k, by have := HK.out; go_num, by have := HK.out; omega, HI2.out, HR4.out⟩
            case measure => have := HK.out; simp [intOf]; omega
          | false =>
            have HDN := Lib.hid (HI.out.done hji (.inr (by rw [HX.out, ← HK.out, HY.out]; exact hb)))
            have hcn : ¬ (cmF X Y < 0) := fun hc => by rw [(cmF_neg X Y).1 hc] at hb; cases hb
            generalize cmF X Y = cv at *
            have hcd : decide (cv < 0) = false := decide_eq_false hcn
            clear hb
            go_wp2
            go_region_held3 (fun W => W.cell? ⟨q, j * 2, none⟩ = some (.int .i64 X.dl) ∧ W.cell? ⟨q, j * 2 + 1, none⟩ = some (.int .i64 X.id) ∧ W.cell? ⟨q, k * 2, none⟩ = some (.int .i64 Y.dl) ∧ W.cell? ⟨q, k * 2 + 1, none⟩ = some (.int .i64 Y.id))
              (first | with_reducible exact HSA.out | with_reducible exact HSB.out)
              ((go_at_call 70; (with_reducible refine (HC.out _).mono ?_); rintro e w1 ⟨rfl, hb1⟩; obtain ⟨hs, hr⟩ := HSC.out _ hb1; have HSB := Lib.hid hs; have HR3 := Lib.hid hr; clear hb1 hs hr))
            clear c0 c1 d0 d1 hq
            go_wp2
            go_roundw
            case rel => exact ⟨i + 1, g2, by go_num, by omega, by omega, HDN.out, HR3.out⟩
            case measure => simp [intOf]; omega
        · obtain rfl : j = 0 := by omega
          have HDN := Lib.hid (HI.out.done (Nat.zero_le _) (.inl rfl))
          go_wp2
          go_quiet (fail)
          go_wp2
          go_roundw
          case rel => exact ⟨i + 1, g2, by go_num, by omega, by omega, HDN.out, HR2.out.drewN _⟩
          case measure => simp [intOf]; omega
    · have hlt' : ¬ (i : Int) < (n : Int) := by omega
      have HF := Lib.hid (show ∃ g : List Du, g.Perm h ∧ Srt g ∧ RwAt w q n g wr from ⟨g, HS.out.perm, HS.out.srt (by rw [HR.out.len]; omega), HR.out⟩)
      go_wp2
      go_end0
      exact ⟨rfl, HF.out⟩
end Go.Proofs.YtjclhlejbidpgaaGreat
namespace Go.Proofs.YtjclhlejbidpgaaGreat
open Go.RowKit
set_option linter.unusedVariables false

def LnP (w : World) (e : Ending) (w' : World) : Prop := ∃ r : Int, e = .returned (.int .i64 r) ∧ w = w'
set_option maxHeartbeats 8000000 in
set_option maxRecDepth 200000 in
theorem len64_any (x : Nat) (hx : x ≤ 12) (w : World) : Calls Tryz.prog 117 #[.int .u64 (x : Int)] w (LnP w) := by
  have hc : x = 0 ∨ x = 1 ∨ x = 2 ∨ x = 3 ∨ x = 4 ∨ x = 5 ∨ x = 6 ∨ x = 7 ∨ x = 8 ∨ x = 9 ∨ x = 10 ∨ x = 11 ∨ x = 12 := by omega
  clear hx
  rcases hc with rfl | rfl | rfl | rfl | rfl | rfl | rfl | rfl | rfl | rfl | rfl | rfl | rfl
  all_goals
    go_enter Tryz.func117, Tryz.ntmps117
    go_wp2
    go_ret
    exact ⟨_, rfl, rfl⟩
theorem len_any (x : Nat) (hx : x ≤ 12) (w : World) : Calls Tryz.prog 104 #[.int .u64 (x : Int)] w (LnP w) := by
  have HL := Lib.hid (len64_any x hx)
  have hx' : (x : Int) ≤ 12 := by omega
  clear hx
  go_enter Tryz.func104, Tryz.ntmps104
  go_wp2_with fail
  refine (HL.out _).mono ?_
  rintro e w1 ⟨r, rfl, rfl⟩
  go_wp2
  go_ret
  exact ⟨_, rfl, rfl⟩
end Go.Proofs.YtjclhlejbidpgaaGreat
namespace Go.Proofs.YtjclhlejbidpgaaGreat
open Go.RowKit
set_option linter.unusedVariables false

set_option maxHeartbeats 4000000 in
set_option maxRecDepth 20000 in
theorem pdq_any (q n cap : Nat) (lim : Int) (h : List Du) (w : World) (hr : DRow w q n (ge h)) (hn : h.length = n) (h12 : n ≤ 12) :
    Calls Tryz.prog 103 #[.slice (some ⟨q, 0, none⟩) n cap, .int .i64 0, .int .i64 n, .int .i64 lim, .func (.func 70) #[] #[]] w (IsP w q n h) := by
  have HI := Lib.hid (isort_any q n cap h w hr hn (by omega))
  have hn12 : (n : Int) ≤ 12 := by omega
  clear hr hn h12
  go_enter Tryz.func103, Tryz.ntmps103
  go_wp2
  go_loopw [1, 2, 3, 10, 11] (fun a b l x y wr => a = .int .i64 0 ∧ b = .int .i64 n ∧ l = .int .i64 lim ∧ x = .bool true ∧ y = .bool true ∧ wr = w) (fun _ _ _ _ _ _ => 0)
  case atStart => exact ⟨rfl, rfl, rfl, rfl, rfl, rfl⟩
  case round =>
    obtain ⟨rfl, rfl, rfl, rfl, rfl, rfl⟩ := hrel
    go_wp2_with fail
    refine HI.out.mono ?_
    rintro e w1 ⟨rfl, hp⟩
    have HP := Lib.hid hp
    clear hp
    go_wp2
    refine bodyPost_ret (results_none rfl _ _ _) rfl ?_
    exact ⟨rfl, HP.out⟩

set_option maxHeartbeats 2000000 in
theorem sortfunc_any (q n cap : Nat) (h : List Du) (w : World) (hr : DRow w q n (ge h)) (hn : h.length = n) (h12 : n ≤ 12) :
    Calls Tryz.prog 91 #[.slice (some ⟨q, 0, none⟩) n cap, .func (.func 70) #[] #[]] w (IsP w q n h) := by
  have HI := Lib.hid (fun lim => pdq_any q n cap lim h w hr hn h12)
  have HL := Lib.hid (fun w => len_any n h12 w)
  have hn12 : (n : Int) ≤ 12 := by omega
  clear hr hn h12
  go_enter Tryz.func91, Tryz.ntmps91
  go_wp2_with fail
  refine (HL.out _).mono ?_
  rintro e w1 ⟨r, rfl, rfl⟩
  go_wp2_with fail
  refine (HI.out _).mono ?_
  rintro e w1 ⟨rfl, hp⟩
  have HP := Lib.hid hp
  clear hp
  go_wp2
  go_end0
  exact ⟨rfl, HP.out⟩
end Go.Proofs.YtjclhlejbidpgaaGreat
