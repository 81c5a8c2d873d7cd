/- What is proved here: digest.Sum returns the hash of the bytes; digest.Check returns the hash of the bytes behind the mark; handle.Encode, by one contract for all arguments. -/
import Derived.Test.YtkkgfnncdaiooaaJ01
import Derived.Test.YtkkgfnncdaiooaaJ02
import Derived.Test.YtkkgfnncdaiooaaJ04
import Derived.BigQuiet
import Derived.Deep.QuietTactic
import Derived.Deep.RegionHeld3
namespace Go.Proofs.Ytkkgfnncdaiooaa
open Go.RowKit
set_option linter.unusedVariables false

set_option maxRecDepth 20000 in
theorem sum_any (A : Option Addr) (l c : Nat) (bs : List UInt8) (w : World) (hv : Bs w w.heap.size (.slice A l c) bs) (hl : bs.length ≤ 1099511627776) :
    Calls Try.prog 25 #[.slice A l c] w fun e w' => e = .returned (.int .i64 (fnv bs)) ∧ w = w' := by
  obtain ⟨rfl, hlc, hm⟩ := hv.len
  have hL : (bs.length : Int) ≤ 9223372036854775806 := by omega
  have HV := Lib.hid hv
  clear hv hlc hm
  go_enter Try.func25, Try.ntmps25
  go_wp2
  go_loop [3, 5, 8] (fun h _ i => ∃ k : Nat, k ≤ bs.length ∧ i = .int .i64 k ∧ h = .int .u32 (fnv (bs.take k))) (fun _ _ i => bs.length - (intOf i).toNat)
  case atStart => exact ⟨0, Nat.zero_le _, rfl, rfl⟩
  case round =>
    obtain ⟨k, hk, rfl, rfl⟩ := hrel
    by_cases hlt : k < bs.length
    · obtain ⟨b, o, rfl, _, hb, hc⟩ := HV.out.at_ hlt
      have HT := Lib.hid (fnv_take bs k hlt)
      obtain ⟨h, hh⟩ : ∃ h, h = fnv (bs.take k) := ⟨_, rfl⟩
      obtain ⟨y, hy⟩ : ∃ y, y = bs[k].toNat := ⟨_, rfl⟩
      have h32 : h < 4294967296 := by rw [hh]; exact fnv_lt _
      have y8 : y < 256 := by rw [hy]; exact UInt8.toNat_lt _
      have hx := xor_u32 h y h32 (by omega)
      have HX := Lib.hid (show fst1 h y = (h ^^^ y) * 16777619 % 4294967296 from rfl)
      obtain ⟨x, hx'⟩ : ∃ x, x = h ^^^ y := ⟨_, rfl⟩
      have x32 : x < 4294967296 := by rw [hx']; exact Nat.xor_lt_two_pow (n := 32) (by omega) (by omega)
      rw [← hx'] at hx HX
      rw [← hh, ← hy] at HT
      rw [← hy] at hc
      rw [← hh]
      have h32' : (h : Int) ≤ 4294967295 := by omega
      have y8' : (y : Int) ≤ 255 := by omega
      have x32' : (x : Int) ≤ 4294967295 := by omega
      clear hx' hh hy h32 y8 x32
      go_wp2
      go_round
      case rel => exact ⟨k + 1, by omega, by go_num, by rw [HT.out, HX.out]; go_num⟩
      case measure => simp [intOf]; omega
    · obtain rfl : k = bs.length := by omega
      have HW := Lib.hid (show wrap64 (fnv bs : Int) = fnv bs from by rw [IntWalk.wrap64_in]; have := fnv_lt bs; omega)
      go_wp2
      go_ret
      exact ⟨congrArg (fun n => Ending.returned (.int .i64 n)) HW.out, rfl⟩
end Go.Proofs.Ytkkgfnncdaiooaa
namespace Go.Proofs.Ytkkgfnncdaiooaa
open Go.RowKit
set_option linter.unusedVariables false

theorem check_any (A : Option Addr) (l c : Nat) (bs : List UInt8) (w : World) (hv : Bs w w.heap.size (.slice A l c) bs) (hl : bs.length ≤ 1099511627000) :
    Calls Try.prog 17 #[.slice A l c] w fun e w' => e = .returned (.int .i64 (fnv (90 :: bs))) ∧ Below w.heap.size w w' := by
  obtain ⟨rfl, hlc, hm⟩ := hv.len
  have hB : Below w.heap.size w (w.alloc (.cells ([(90 : UInt8)].map oct).toArray 5)) := (Below.refl _ _).alloc (Nat.le_refl _) _
  have h0 := Bs.fresh w [90] 5 (by unfold maxLen; simp)
  have h1 := (hv.below hB).more hB.size
  have HC := Lib.hid (concat2 (w.heap.size + 1) 2 _ _ [90] bs (w.alloc (.cells ([(90 : UInt8)].map oct).toArray 5)) (by simp) (by simpa using h0) h1 (by simp; omega))
  have HB := Lib.hid hB
  have HL := Lib.hid hl
  clear hv hlc hm hB h0 h1 hl
  go_enter Try.func17, Try.ntmps17
  go_wp2_with fail
  refine HC.out.mono ?_
  rintro e w1 ⟨v1, rfl, ho, hb⟩
  obtain ⟨A1, c1, rfl⟩ := own_form ho
  have HO := Lib.hid (Bs.of_own ho)
  have HB1 := Lib.hid hb
  clear ho hb
  go_wp2_with fail
  refine (sum_any _ _ _ _ _ HO.out (by have := HL.out; simp; omega)).mono ?_
  rintro e w2 ⟨rfl, rfl⟩
  go_wp2
  go_ret
  exact ⟨rfl, HB.out.trans (HB1.out.mono HB.out.size)⟩
end Go.Proofs.Ytkkgfnncdaiooaa
namespace Go.Proofs.Ytkkgfnncdaiooaa
open Go.RowKit
set_option linter.unusedVariables false

/-- The number at place k, its size and its range, the bytes before it. -/
def hqN (h : Hq) (k : Nat) : Int := match k with | 0 => h.id | 1 => h.gn | 2 => h.rt | _ => h.ht
def hqS (k : Nat) : Nat := match k with | 0 => 4 | 1 => 3 | 2 => 2 | _ => 1
def hqL (k : Nat) : Int := match k with | 0 => 1 | 1 => 1 | _ => 0
def hqM (k : Nat) : Int := match k with | 0 => 1073741824 | 1 => 65536 | 2 => 65535 | _ => 5
def hqP (h : Hq) (k : Nat) : List UInt8 := match k with | 0 => [113] | 1 => hq1 h | 2 => hq2 h | 3 => hq3 h | _ => hq4 h
theorem hqP_next (h : Hq) (k : Nat) (hk : k < 4) : hqP h (k + 1) = hqP h k ++ be (hqS k) (hqN h k).toNat := by
  match k, hk with
  | 0, _ => rfl
  | 1, _ => rfl
  | 2, _ => rfl
  | 3, _ => rfl
theorem hqP_len (h : Hq) (k : Nat) : (hqP h k).length ≤ 11 := by
  match k with
  | 0 => simp [hqP]
  | 1 => show (hq1 h).length ≤ 11; rw [hq1_len]; omega
  | 2 => show (hq2 h).length ≤ 11; rw [hq2_len]; omega
  | 3 => show (hq3 h).length ≤ 11; rw [hq3_len]; omega
  | k + 4 => show (hq4 h).length ≤ 11; rw [hq4_len]; omega
theorem hqr_at {h : Hq} (hr : HqR h) (k : Nat) : hqL k ≤ hqN h k ∧ hqN h k ≤ hqM k := by
  obtain ⟨h0, h1, h2, h3⟩ := hr
  match k with
  | 0 => exact h0
  | 1 => exact h1
  | 2 => exact h2
  | k + 3 => exact h3
theorem hqr_of {h : Hq} (hr : ∀ k, k < 4 → hqL k ≤ hqN h k ∧ hqN h k ≤ hqM k) : HqR h := ⟨hr 0 (by omega), hr 1 (by omega), hr 2 (by omega), hr 3 (by omega)⟩
theorem hq_fit (k : Nat) (n : Int) (hk : k < 4) (h0 : hqL k ≤ n) (h1 : n ≤ hqM k) : 0 ≤ n ∧ n.toNat < 2 ^ (8 * hqS k) ∧ 1 ≤ (hqS k : Int) ∧ (hqS k : Int) ≤ 6 := by
  match k, hk with
  | 0, _ => simp only [hqL, hqM, hqS] at *; omega
  | 1, _ => simp only [hqL, hqM, hqS] at *; omega
  | 2, _ => simp only [hqL, hqM, hqS] at *; omega
  | 3, _ => simp only [hqL, hqM, hqS] at *; omega
theorem fq_index (g : Nat) : ∀ k : Nat, k < 4 → ∀ W, (Instr.index 42 (fqv g) (.int .i64 (k : Nat))).run Try.prog W = .ok (.agg #[.pointer (some ⟨g, k, none⟩), .int .i64 (hqS k : Nat), .int .i64 (hqL k), .int .i64 (hqM k)]) W := by
  have i0 : ∀ W, (Instr.index 42 (fqv g) (.int .i64 (0 : Nat))).run Try.prog W = .ok (.agg #[.pointer (some ⟨g, 0, none⟩), .int .i64 4, .int .i64 1, .int .i64 1073741824]) W := fun _ => by kernel_rfl
  have i1 : ∀ W, (Instr.index 42 (fqv g) (.int .i64 (1 : Nat))).run Try.prog W = .ok (.agg #[.pointer (some ⟨g, 1, none⟩), .int .i64 3, .int .i64 1, .int .i64 65536]) W := fun _ => by kernel_rfl
  have i2 : ∀ W, (Instr.index 42 (fqv g) (.int .i64 (2 : Nat))).run Try.prog W = .ok (.agg #[.pointer (some ⟨g, 2, none⟩), .int .i64 2, .int .i64 0, .int .i64 65535]) W := fun _ => by kernel_rfl
  have i3 : ∀ W, (Instr.index 42 (fqv g) (.int .i64 (3 : Nat))).run Try.prog W = .ok (.agg #[.pointer (some ⟨g, 3, none⟩), .int .i64 1, .int .i64 0, .int .i64 5]) W := fun _ => by kernel_rfl
  intro k hk W
  match k, hk with
  | 0, _ => exact i0 W
  | 1, _ => exact i1 W
  | 2, _ => exact i2 W
  | 3, _ => exact i3 W

theorem belN {B : Nat} {a w : World} (h : Below B a w) : ∀ n, Below B a (w.drewN n)
  | 0 => h
  | n + 1 => (belN h n).drew
abbrev F3 (p g k s m : Nat) (W : World) : Prop := W.cell? ⟨p, 0, none⟩ = some (.pointer (some ⟨g, k, none⟩)) ∧ W.cell? ⟨p, 1, none⟩ = some (.int .i64 (s : Nat)) ∧ W.cell? ⟨g, k, none⟩ = some (.int .i64 (m : Nat))
theorem F3.up {p g k s m : Nat} {W W' : World} (h : F3 p g k s m W) (hb : Below W.heap.size W W') (hp : p < W.heap.size) (hg : g < W.heap.size) : F3 p g k s m W' :=
  ⟨(hb.cell (p := ⟨p, 0, none⟩) hp).trans h.1, (hb.cell (p := ⟨p, 1, none⟩) hp).trans h.2.1, (hb.cell (p := ⟨g, k, none⟩) hg).trans h.2.2⟩
set_option maxHeartbeats 4000000 in
set_option maxRecDepth 20000 in
theorem enc_any (h : Hq) (w : World) : Calls Try.prog 8 #[h.v] w (Put2 w (hqB h) (hqE h)) := by
  obtain ⟨i0, hi0, hz0, hz1, hz2⟩ := info_parts info_u8
  have HI := Lib.hid (fq_index w.heap.size)
  obtain ⟨PB, hPB⟩ : ∃ PB, PB = hqB h := ⟨_, rfl⟩
  obtain ⟨PE, hPE⟩ : ∃ PE, PE = hqE h := ⟨_, rfl⟩
  have HPB := Lib.hid hPB
  have HPE := Lib.hid hPE
  rw [← hPB, ← hPE]
  clear hPB hPE
  go_enter Try.func8, Try.ntmps8
  go_wp2_with fail
  refine (fields_any _ _).mono ?_
  rintro e w1 ⟨rfl, hb⟩
  obtain ⟨g, hg⟩ : ∃ g, g = w.heap.size := ⟨_, rfl⟩
  have HG := Lib.hid hg
  have HS1 := Lib.hid (show g + 1 < w1.heap.size from by have := hb.size; simp at this; omega)
  have HC1 := Lib.hid (show w1.cell? ⟨g, 0, none⟩ = some (.int .i64 h.id) ∧ w1.cell? ⟨g, 1, none⟩ = some (.int .i64 h.gn) ∧ w1.cell? ⟨g, 2, none⟩ = some (.int .i64 h.rt) ∧ w1.cell? ⟨g, 3, none⟩ = some (.int .i64 h.ht) by
    subst hg
    refine ⟨?_, ?_, ?_, ?_⟩
    all_goals
      rw [hb.cell (by simp; omega)]
      simp [go_sem])
  have HB1 := Lib.hid (show Below w.heap.size w w1 from (((Below.refl _ _).alloc (Nat.le_refl _) _).alloc (by simp) _).trans (hb.mono (by simp; omega)))
  have HO1 := Lib.hid (show Bs w1 w1.heap.size (.slice (some ⟨g + 1, 0, none⟩) 1 1) (hqP h 0) by
    subst hg
    have h0 : Bs ((w.alloc (.cells #[.int .i64 h.id, .int .i64 h.gn, .int .i64 h.rt, .int .i64 h.ht] 23)).alloc (.cells #[.int .u8 113] 5)) (w.heap.size + 1 + 1) (.slice (some ⟨w.heap.size + 1, 0, none⟩) 1 1) [113] := by
      have := Bs.fresh (w.alloc (.cells #[.int .i64 h.id, .int .i64 h.gn, .int .i64 h.rt, .int .i64 h.ht] 23)) [113] 5 (by unfold maxLen; simp)
      simpa [oct] using this
    exact (Bs.below h0 (by simpa using hb)).more (B' := w1.heap.size) (by have := hb.size; simp at this ⊢; omega))
  rw [← hg] at HI ⊢
  clear hb hg
  go_wp2
  go_loopw [4, 6, 9] (fun b _ i wr => ∃ k : Nat, k ≤ 4 ∧ i = .int .i64 k ∧ Hid (∀ j, j < k → hqL j ≤ hqN h j ∧ hqN h j ≤ hqM j) ∧ ∃ A c, b = .slice A (hqP h k).length c ∧ Hid (Bs wr wr.heap.size (.slice A (hqP h k).length c) (hqP h k)) ∧ Hid (0 < k → wr.ownsRow w.heap.size 5 1 (.slice A (hqP h k).length c) (hqP h k).length ((hqP h k).map oct)) ∧ Hid (Below w1.heap.size w1 wr)) (fun _ _ i _ => 4 - (intOf i).toNat)
  case atStart => exact ⟨0, by omega, rfl, Lib.hid (by omega), _, _, rfl, HO1, Lib.hid (by omega), Lib.hid (Below.refl _ _)⟩
  case round =>
    clear HO1
    obtain ⟨k, hk, rfl, HR, A, c, rfl, HV, HO, HW⟩ := hrel
    by_cases hlt : k < 4
    · have hi := HI.out k hlt
      have hgl : g < wr.heap.size := by have := HS1.out; have := HW.out.size; omega
      have hcell : wr.cell? ⟨g, k, none⟩ = some (.int .i64 (hqN h k)) := by
        rw [HW.out.cell (p := ⟨g, k, none⟩) (by have := HS1.out; show g < w1.heap.size; omega)]
        obtain ⟨c0, c1, c2, c3⟩ := HC1.out
        match k, hlt with
        | 0, _ => exact c0
        | 1, _ => exact c1
        | 2, _ => exact c2
        | 3, _ => exact c3
      have HN := Lib.hid (hqP_next h k hlt)
      have HF := Lib.hid (hq_fit k (hqN h k) hlt)
      have HL := Lib.hid (hqP_len h k)
      have HQ := Lib.hid (fun (hr : HqR h) => hqr_at hr k)
      have HNK := Lib.hid (⟨_, rfl⟩ : ∃ n, n = hqN h k)
      generalize hn : hqN h k = n at *
      generalize hlo : hqL k = lo at *
      generalize hmx : hqM k = mx at *
      generalize hs : hqS k = s at *
      have HNE := Lib.hid (show hqN h k = n ∧ hqL k = lo ∧ hqM k = mx from ⟨hn, hlo, hmx⟩)
      clear hn hlo hmx hs
      go_wp2
      obtain ⟨p, hp⟩ : ∃ p, p = wr.heap.size := ⟨_, rfl⟩
      obtain ⟨wf, hwf⟩ : ∃ wf, wf = wr.alloc (.cells #[.pointer (some ⟨g, k, none⟩), .int .i64 (s : Nat), .int .i64 lo, .int .i64 mx] 41) := ⟨_, rfl⟩
      rw [← hwf, ← hp]
      have f0 : wf.cell? ⟨p, 0, none⟩ = some (.pointer (some ⟨g, k, none⟩)) := by rw [hwf, hp]; simp [go_sem]
      have f1 : wf.cell? ⟨p, 1, none⟩ = some (.int .i64 (s : Nat)) := by rw [hwf, hp]; simp [go_sem]
      have f2 : wf.cell? ⟨p, 2, none⟩ = some (.int .i64 lo) := by rw [hwf, hp]; simp [go_sem]
      have f3 : wf.cell? ⟨p, 3, none⟩ = some (.int .i64 mx) := by rw [hwf, hp]; simp [go_sem]
      have hcf : wf.cell? ⟨g, k, none⟩ = some (.int .i64 n) := by rw [hwf, World.cell?_alloc_lt _ _ _ (by exact hgl)]; exact hcell
      have HWF := Lib.hid (show Below wr.heap.size wr wf from by rw [hwf]; exact (Below.refl _ _).alloc (Nat.le_refl _) _)
      have hgs : g < wf.heap.size := by have := HWF.out.size; omega
      have hps : p < wf.heap.size := by rw [hwf, hp]; simp
      have HWG := Lib.hid (HW.out.trans (HWF.out.mono HW.out.size))
      have HVF := Lib.hid ((HV.out.below HWF.out).more HWF.out.size)
      clear hp hwf HWF HV hcell hgl HW
      by_cases h0 : n < lo
      · have hd : decide (n < lo) = true := decide_eq_true h0
        have HX := Lib.hid (show hqB h = [] ∧ hqE h = 1 from ⟨hqB_no fun hr => by have := (HQ.out hr).1; omega, hqE_no fun hr => by have := (HQ.out hr).1; omega⟩)
        go_quiet (fail)
        go_wp2
        go_ret2
        exact ⟨.slice none 0 0, by rw [HPE.out, HX.out.2]; rfl, by rw [HPB.out, HX.out.1]; exact Bs.nil, belN (HB1.out.trans (HWG.out.mono HB1.out.size)) _⟩
      · have hd : decide (n < lo) = false := decide_eq_false h0
        by_cases h1 : mx < n
        · have hd1 : decide (mx < n) = true := decide_eq_true h1
          have HX := Lib.hid (show hqB h = [] ∧ hqE h = 1 from ⟨hqB_no fun hr => by have := (HQ.out hr).2; omega, hqE_no fun hr => by have := (HQ.out hr).2; omega⟩)
          go_quiet (fail)
          go_wp2
          go_ret2
          exact ⟨.slice none 0 0, by rw [HPE.out, HX.out.2]; rfl, by rw [HPB.out, HX.out.1]; exact Bs.nil, belN (HB1.out.trans (HWG.out.mono HB1.out.size)) _⟩
        · have hd1 : decide (mx < n) = false := decide_eq_false h1
          obtain ⟨e0, e1, e2, e3⟩ := HF.out (by omega) (by omega)
          obtain ⟨m, rfl⟩ := Int.eq_ofNat_of_zero_le e0
          rw [Int.toNat_natCast] at e1 HN
          have HRN := Lib.hid (show lo ≤ (m : Int) ∧ (m : Int) ≤ mx from ⟨by omega, by omega⟩)
          have HPT := Lib.hid (fun W (hv : Bs W W.heap.size (.slice A (hqP h k).length c) (hqP h k)) => show Calls Try.prog 16 #[.slice A (hqP h k).length c, .int .i64 m, .int .i64 s] W (fun e w' => ∃ v', e = .returned (.tuple #[v', .int .i64 0]) ∧ w'.ownsRow W.heap.size 5 1 v' (hqP h (k + 1)).length ((hqP h (k + 1)).map oct) ∧ Below W.heap.size W w') by
            rw [HN.out]
            exact put_ok A _ c (hqP h k) m s W hv (by have := HL.out; omega) e2 e3 e1)
          clear e0 e1 e2 e3
          go_quiet (fail)
          rename_i nq
          obtain ⟨wd, hwd⟩ : ∃ wd, wd = wf.drewN nq := ⟨_, rfl⟩
          rw [← hwd]
          have HS0 := Lib.hid (show F3 p g k s m wd from by rw [hwd]; exact ⟨f0, f1, hcf⟩)
          have hl0 : p < wd.heap.size ∧ g < wd.heap.size := by rw [hwd]; exact ⟨hps, hgs⟩
          have HVD := Lib.hid (show Bs wd.drew wd.drew.heap.size (.slice A (hqP h k).length c) (hqP h k) from by rw [hwd]; exact HVF.out)
          have HWD := Lib.hid (show Below w1.heap.size w1 wd from by rw [hwd]; exact belN HWG.out _)
          obtain ⟨f0, f1, f2⟩ := HS0.out
          obtain ⟨hpd, hgd⟩ := hl0
          have HSD := Lib.hid (show F3 p g k s m wd.drew from HS0.out)
          have HPD := Lib.hid (show p < wd.drew.heap.size ∧ g < wd.drew.heap.size from ⟨hpd, hgd⟩)
          clear hwd HWG HVF hcf f3 hps hgs
          go_wp2
          go_region_held3 (fun W => F3 p g k s m W)
            (first | with_reducible exact HS0.out | with_reducible exact HSD.out | with_reducible exact HS1.out)
            (first | (go_at_call 16; (with_reducible refine (HPT.out _ HVD.out).mono ?_); rintro e w2 ⟨v2, rfl, ho, hb⟩; obtain ⟨A2, c2, rfl⟩ := own_form ho; have HS1 := Lib.hid (HSD.out.up hb HPD.out.1 HPD.out.2); have HO2 := Lib.hid ho; have HB2 := Lib.hid (HWD.out.drew.trans (hb.mono HWD.out.drew.size)); clear ho hb))
          go_wp2
          go_roundw
          case rel =>
            refine ⟨k + 1, by omega, by go_num, Lib.hid fun j hj => ?_, A2, c2, rfl, Lib.hid (Bs.of_own HO2.out), Lib.hid fun _ => own_low HO2.out (by have := HB1.out.size; have := HWD.out.size; show w.heap.size ≤ wd.heap.size; omega), HB2⟩
            by_cases hjk : j = k
            · subst hjk; rw [HNE.out.1, HNE.out.2.1, HNE.out.2.2]; exact HRN.out
            · exact HR.out j (by omega)
          case measure => simp [intOf]; omega
    · obtain rfl : k = 4 := by omega
      have HX := Lib.hid (show hqB h = hq16 h ∧ hqE h = 0 from ⟨hqB_yes (hqr_of HR.out), hqE_yes (hqr_of HR.out)⟩)
      have HOK := Lib.hid (HO.out (by omega))
      have HVK := Lib.hid HV.out
      have HWK := Lib.hid (HB1.out.trans (HW.out.mono HB1.out.size))
      clear HO HV HR HI
      have HY := Lib.hid (show hq12 h = hqP h 4 ++ [0] ∧ (hqP h 4).length = 11 from ⟨rfl, hq4_len h⟩)
      generalize hqP h 4 = Y at *
      go_wp2_with (at_builtin; refine wpList_append_rd _ rfl _ _ 24 rfl w.heap.size 5 i0 _ 1 1 Try.underlying24 hi0 hz0 hz1 hz2 rfl (by omega) _ _ _ rfl (HOK.out.alloc _) _ _ _ _ _ rfl (Rd.fresh wr _ _) (by intro u hu; simp at hu; subst hu; rfl) (by have := HY.out.2; unfold maxLen; simp at *; omega) (by have := HY.out.2; simp at *; omega) (by have := HWK.out.size; simp; omega) ?_; intro v3 w3 hown3 hg3 _; obtain ⟨A3, c3, rfl⟩ := own_form hown3)
      have HW3 := Lib.hid ((HWK.out.alloc HWK.out.size _).grown hg3 (by have := HWK.out.size; simp; omega) (fun g hg => (World.ownsRow.lt HOK.out g hg).1))
      have HV3 := Lib.hid (show Bs w3 w3.heap.size (.slice A3 (Y.length + 1) c3) (hq12 h) from by
        refine Bs.of_own (base := w.heap.size) (e := 5) (n := Y.length + 1) ?_
        rw [HY.out.1, List.map_append]
        exact hown3)
      clear hown3 hg3 HVK HOK HWK HW
      have HT := Lib.hid (fun W (hv : Bs W W.heap.size (.slice A3 (Y.length + 1) c3) (hq12 h)) => show Calls Try.prog 16 #[.slice A3 (Y.length + 1) c3, .int .i64 (fnv (90 :: hq12 h) : Nat), .int .i64 4] W (fun e w' => ∃ v', e = .returned (.tuple #[v', .int .i64 0]) ∧ w'.ownsRow W.heap.size 5 1 v' (hq16 h).length ((hq16 h).map oct) ∧ Below W.heap.size W w') from
        put_ok A3 _ c3 (hq12 h) (fnv (90 :: hq12 h)) 4 W hv (by rw [hq12_len]; omega) (by omega) (by omega) (by have := fnv_lt (90 :: hq12 h); omega))
      refine (check_any A3 _ c3 (hq12 h) w3 HV3.out (by rw [hq12_len]; omega)).mono ?_
      rintro e w4 ⟨rfl, hb⟩
      have HV4 := Lib.hid ((HV3.out.below hb).more hb.size)
      have HW4 := Lib.hid (HW3.out.trans (hb.mono HW3.out.size))
      clear hb HV3
      generalize fnv (90 :: hq12 h) = F at *
      go_wp2_with fail
      refine (HT.out _ HV4.out).mono ?_
      rintro e w5 ⟨v5, rfl, ho, hb⟩
      have HV5 := Lib.hid (Bs.of_own ho)
      have HW5 := Lib.hid (HW4.out.trans (hb.mono HW4.out.size))
      clear ho hb
      go_wp2
      go_ret2
      exact ⟨v5, by rw [HPE.out, HX.out.2]; rfl, by rw [HPB.out, HX.out.1]; exact HV5.out, HW5.out⟩
end Go.Proofs.Ytkkgfnncdaiooaa
