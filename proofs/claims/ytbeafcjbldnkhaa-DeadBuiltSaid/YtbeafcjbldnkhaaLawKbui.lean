/- What is proved here: shardqueuelaw08.DeadBuilt returns true for every input and leaves its argument as it was. No condition. -/
import Derived.Test.YtbeafcjbldnkhaaJ17
import Derived.Test.YtbeafcjbldnkhaaJ18
import Derived.Test.YtbeafcjbldnkhaaJ19
import Derived.Deep.RegionHeld3
import Derived.ProofKit
import Derived.OpenShut
import Derived.ShutString
import Derived.ChangeOld
namespace Go.Proofs.Ytbeafcjbldnkhaa
open Go.RowKit
set_option linter.unusedVariables false

/-- A source, and a store in a box beside it. -/
structure Bs8 (w : World) (g p B : Nat) (cap : Int) (A : Option Addr) (c : Nat) (l : List Msg) (W : World) : Prop where
  src : SrcAt W w.heap.size g
  db : DB W p cap A l.length c
  ls : Ls W B (.slice A l.length c) l
  offg : Ob g l.length A
  bel : Below w.heap.size w W
  old : w.heap.size ≤ g ∧ g < p ∧ p < B ∧ B ≤ W.heap.size
section
variable {w W W' : World} {g p B c : Nat} {cap : Int} {A : Option Addr} {l T T' : List Msg} {lv lv' : Value}
theorem Bs8.below (h : Bs8 w g p B cap A c l W) (hb : Below W.heap.size W W') : Bs8 w g p B cap A c l W' :=
  ⟨h.src.below hb, h.db.up hb, h.ls.below (hb.mono h.old.2.2.2), h.offg, h.bel.trans (hb.mono h.bel.size), h.old.1, h.old.2.1, h.old.2.2.1, Nat.le_trans h.old.2.2.2 hb.size⟩
theorem Bs8.turn (h : Bs8 w g p B cap A c l W) (hs : SrcAt W' w.heap.size g) (hg : W.grownBy W' (some g)) : Bs8 w g p B cap A c l W' := by
  have ho := h.old
  exact ⟨hs, h.db.grown hg (fun e => by injection e with e; omega), h.ls.growno ho.2.2.2 hg (fun x e => by cases e; exact h.offg), h.offg, below_only h.bel hg ho.1 (Nat.le_refl _), ho.1, ho.2.1, ho.2.2.1, Nat.le_trans ho.2.2.2 hg.size⟩
theorem Bs8.row (h : Bs8 w g p B cap A c l W) {row : Option Nat} (hg : W.grownBy W' row) (hr : ∀ x, row = some x → B ≤ x) : Bs8 w g p B cap A c l W' := by
  have ho := h.old
  have hsl := h.src.2.1
  exact ⟨h.src.keep hg.size (fun o => hg.cell_far ⟨g, o, none⟩ hsl (fun e => by have := hr g e.symm; omega)) (fun o => hg.frozen_far ⟨g, o, none⟩ hsl (fun e => by have := hr g e.symm; omega)) (fun x hx => hg.cell_far x (by omega) (fun e => by have := hr _ e.symm; omega)),
    h.db.grown hg (fun e => by have := hr p e.symm; omega), h.ls.growno ho.2.2.2 hg (fun x e => ob_ls h.ls (hr x e)), h.offg, h.bel.grown hg h.bel.size (fun x e => by have := hr x e; omega), ho.1, ho.2.1, ho.2.2.1, Nat.le_trans ho.2.2.2 hg.size⟩
theorem Bs8.here (h : Bs8 w g p B cap A c l W) : Ls W W.heap.size (.slice A l.length c) l := h.ls.more h.old.2.2.2
theorem Bs8.s2 (h : Bs8 w g p B cap A c l W) : W.cell? ⟨p, 0, none⟩ = some (.int .i64 cap) ∧ W.cell? ⟨p, 1, none⟩ = some (.slice A l.length c) := ⟨h.db.c0, h.db.c1⟩
/-- With a list of messages that the call owns. -/
structure Bm8 (w : World) (g p B : Nat) (cap : Int) (A : Option Addr) (c : Nat) (l : List Msg) (lv : Value) (T : List Msg) (W : World) : Prop where
  bs : Bs8 w g p B cap A c l W
  own : W.ownsRow B 37 7 lv T.length (lcs T)
theorem Bm8.below (h : Bm8 w g p B cap A c l lv T W) (hb : Below W.heap.size W W') : Bm8 w g p B cap A c l lv T W' := ⟨h.bs.below hb, own8_below h.own hb⟩
theorem Bm8.alloc (h : Bm8 w g p B cap A c l lv T W) (o : Obj) : Bm8 w g p B cap A c l lv T (W.alloc o) := h.below ((Below.refl _ _).alloc (Nat.le_refl _) o)
theorem Bm8.turn (h : Bm8 w g p B cap A c l lv T W) (hs : SrcAt W' w.heap.size g) (hg : W.grownBy W' (some g)) : Bm8 w g p B cap A c l lv T W' := by
  refine ⟨h.bs.turn hs hg, h.own.kept hg ?_⟩
  cases e : lv.ownBlock with
  | none => exact .inl rfl
  | some x => right; intro e'; have := (h.own.lt x e).1; have := h.bs.old; injection e' with e'; omega
theorem Bm8.app (h : Bm8 w g p B cap A c l lv T W) (ho : W'.ownsRow B 37 7 lv' T'.length (lcs T')) (hg : W.grownBy W' lv.ownBlock) : Bm8 w g p B cap A c l lv' T' W' :=
  ⟨h.bs.row hg (fun x e => (h.own.lt x e).1), ho⟩
theorem Bm8.ls (h : Bm8 w g p B cap A c l lv T W) : Ls W W.heap.size lv T := Ls.of_own h.own
end
set_option maxHeartbeats 16000000 in
set_option maxRecDepth 20000 in
theorem DeadBuilt_walk (w : World) (a0 : Option Addr) (l0 c0 : Nat) (zs : List Int) (hz : Ns w w.heap.size (.slice a0 l0 c0) zs) :
    Calls Try.prog 4 #[.slice a0 l0 c0] w fun e w' => e = .returned (.bool true) ∧ Below w.heap.size w w' := by
  have HN := Lib.hid (new_src a0 l0 c0 zs w hz)
  have HAW := Lib.hid (fun W => awake8_any W)
  obtain ⟨i0, hi0, hz0⟩ := Option.map_eq_some_iff.1 info_m8
  simp only [Prod.mk.injEq] at hz0
  have HI := Lib.hid hi0
  have HZ := Lib.hid hz0
  clear hz hi0 hz0
  go_enter Try.func4, Try.ntmps4
  go_wp2_with fail
  refine HN.out.mono ?_
  rintro e w1 ⟨g, rfl, hs, hb⟩
  have HW1 := Lib.hid hb
  have HS1 := Lib.hid hs
  clear hb hs HN
  go_wp2_with fail
  refine (dead_any w.heap.size g _ HS1.out).mono ?_
  rintro e w2 ⟨cap, A, c, l, rfl, hok, hn, hl, hs, hg⟩
  have H2 := Lib.hid (show Bs8 w g w2.heap.size (w2.heap.size + 1) cap A c l (w2.alloc (.cells #[.int .i64 cap, .slice A l.length c] 24)) from
    ⟨hs.alloc _, DB.fresh w2 cap A l.length c _, (hl.alloc (Nat.le_refl _) _).more (by omega), ob_nw hn HS1.out.2.1, (below_only HW1.out hg HS1.out.1 (Nat.le_refl _)).alloc (below_only HW1.out hg HS1.out.1 (Nat.le_refl _)).size _, HS1.out.1, hs.2.1, by omega, by simp⟩)
  clear hok hn hl hs hg HS1 HW1
  go_wp2
  obtain ⟨p, hp⟩ : ∃ p, p = w2.heap.size := ⟨_, rfl⟩
  obtain ⟨B, hB⟩ : ∃ B, B = w2.heap.size + 1 := ⟨_, rfl⟩
  rw [← hB, ← hp] at H2
  rw [← hp]
  clear hp hB
  generalize w2.alloc (.cells #[.int .i64 cap, .slice A l.length c] 24) = w3 at *
  go_loopw [5] (fun iv wr => ∃ i : Nat, iv = .int .i64 i ∧ i ≤ 4 ∧ Bs8 w g p B cap A c l wr) (fun iv _ => 4 - (intOf iv).toNat)
  case atStart => exact ⟨0, rfl, by omega, H2.out⟩
  case round =>
    obtain ⟨i, rfl, hi4, hh⟩ := hrel
    have HH := Lib.hid hh
    clear hh H2
    by_cases hi : i < 4
    · have hi' : (i : Int) < 4 := by omega
      go_wp2_with fail
      refine (n_any w.heap.size g _ HH.out.src 4 (by omega) (by omega)).mono ?_
      rintro e w4 ⟨x, rfl, hx0, hx1, hs, hg⟩
      obtain ⟨x, rfl⟩ := Int.eq_ofNat_of_zero_le hx0
      have H4 := Lib.hid (show Bm8 w g p B cap A c l (.slice none 0 0) [] w4 from ⟨HH.out.turn hs hg, World.ownsRow_nil _ _ _ _⟩)
      have HX := Lib.hid (show x ≤ 3 by omega)
      clear hs hg hx0 hx1 HH
      go_wp2
      go_loopw [6, 7] (fun lv jv wx => ∃ (j : Nat) (T : List Msg), jv = .int .i64 j ∧ j + T.length ≤ 3 ∧ Bm8 w g p B cap A c l lv T wx) (fun _ jv _ => (intOf jv).toNat)
      case atStart => exact ⟨x, [], rfl, by simpa using HX.out, H4.out⟩
      case round =>
        obtain ⟨j, T, rfl, hjT, hh⟩ := hrel
        have HH := Lib.hid hh
        have HJ := Lib.hid hjT
        clear hh hjT H4
        obtain ⟨A1, cc1, rfl⟩ := own_form HH.out.own
        by_cases hj0 : 0 < j
        · have hj0' : (0 : Int) < (j : Int) := by omega
          have hj4 : (j : Int) ≤ 4 := by have := HJ.out; omega
          go_wp2_with fail
          refine (range_any w.heap.size g _ HH.out.bs.src 1 60 (by omega) (by omega) (by omega)).mono ?_
          rintro e w5 ⟨y, rfl, _, _, hs, hg⟩
          have H5 := Lib.hid (HH.out.turn hs hg)
          clear hs hg
          go_wp2_with fail
          refine (odd_any w.heap.size g _ H5.out.bs.src y 0 65535).mono ?_
          rintro e w6 ⟨M, rfl, _, hs, hg⟩
          have H6 := Lib.hid ((H5.out.turn hs hg).alloc (.cells M.cs 37))
          have HCX := Lib.hid (msg_row8 w6 M 37)
          clear hs hg H5
          go_wp2_with (at_builtin; refine wpList_append_lies _ rfl (.tmp 22) (.tmp 27) 22 rfl B 37 i0 _ 7 64 Try.underlying22 HI.out HZ.out.1 HZ.out.2.1 HZ.out.2.2 rfl (by omega) (.slice A1 T.length cc1) T.length (lcs T) rfl H6.out.own ⟨w6.heap.size, 0, none⟩ 1 1 M.l rfl (by simp [Msg.l_len]) (fun j u hu => by have := HCX.out j u hu; simpa using this) M.l_one (by omega) (by have := HJ.out; unfold maxLen; omega) (by have := HJ.out; omega) H6.out.bs.old.2.2.2 _ rfl ?_; intro g1 cp w8 hown hgrow hat hglt)
          have HP9 := Lib.hid (H6.out.app (own8_end hown) hgrow)
          clear hown hgrow hat hglt
          go_wp2
          go_roundw
          case rel => exact ⟨j - 1, T ++ [M], by rw [show ((j - 1 : Nat) : Int) = (j : Int) - 1 by omega], by have := HJ.out; simp; omega, HP9.out⟩
          case measure => simp [intOf]; omega
        · obtain rfl : j = 0 := by omega
          have HMA := Lib.hid (HH.out.below (Below.refl _ _).drew)
          have HSA := Lib.hid HMA.out.bs.s2
          go_wp2_with fail
          go_region_held3 (fun W => W.cell? ⟨p, 0, none⟩ = some (.int .i64 cap) ∧ W.cell? ⟨p, 1, none⟩ = some (.slice A l.length c))
            (first | with_reducible exact HSA.out | with_reducible exact HSB.out | with_reducible exact HSC.out | with_reducible exact HSD.out)
            (first
            | (go_at_call 10; (with_reducible refine (agrees8_any cap A l.length c l A1 T.length cc1 T x1 x2 _ HMC.out.bs.here HMC.out.ls).mono ?_); rintro e v3 ⟨rfl, hb⟩; have HMD := Lib.hid (HMC.out.below hb); have HSD := Lib.hid HMD.out.bs.s2; clear hb)
            | (go_at_call 14; (with_reducible refine (n_any w.heap.size g _ HMB.out.bs.src _ (by omega) (by omega)).mono ?_); rintro e v2 ⟨x2, rfl, _, _, hs, hg⟩; have HMC := Lib.hid (HMB.out.turn hs hg); have HSC := Lib.hid HMC.out.bs.s2; clear hs hg)
            | (go_at_call 16; (with_reducible refine (range2_any w.heap.size g _ HMA.out.bs.src _ _ (by omega) (by omega) (by omega)).mono ?_); rintro e v1 ⟨x1, rfl, _, _, hs, hg⟩; have HMB := Lib.hid (HMA.out.turn hs hg); have HSB := Lib.hid HMB.out.bs.s2; clear hs hg))
          have HF := Lib.hid HMD.out.bs
          clear HSA HSB HSC HSD HMA HMB HMC HMD
          go_wp2
          go_roundw
          case rel => exact ⟨i + 1, by go_num, by omega, HF.out⟩
          case measure => simp [intOf]; omega
    · obtain rfl : i = 4 := by omega
      go_wp2_with fail
      refine (HAW.out _).mono ?_
      rintro e w7 ⟨rfl, hb⟩
      have HF := Lib.hid (HH.out.below hb)
      clear hb
      go_wp2
      go_ret
      exact ⟨rfl, HF.out.bel⟩

/-! The row's step, as the guide's shell has it. -/
namespace deadBuilt
open Go.ChangeShapes Go.WideShapes Go.ChangeAt
open Go.ChangeMaps (open_string shut_string)
theorem own : ownKnob Try.prog.godebug = none := by kernel_rfl
theorem laidOut : laidOutB Try.prog = true := by kernel_rfl

set_option maxRecDepth 100000 in
theorem lifted (os : Os) (started : os.Started) (H : Type) (enc : TypeId × Value → H) :
    ReturnsInHanded {} Try.checked os 4 .any (Rows.deadBuiltSpec.pre6 enc Try.prog Try.f4 Rows.deadBuiltRow.domain false) (Rows.deadBuiltSpec.post enc Try.prog Try.f4 false true false false) := by
  refine returnsInHanded_of_change (C := Try.checked) own started (by kernel_rfl) Try.func4
    (ChangeSpec.witness6 (enc := enc) (C := Try.checked) false ⟨#[], #[.slice none 0 0], []⟩ 8 (by kernel_rfl) (by kernel_rfl) (by kernel_rfl) (by kernel_rfl)) ?_
  intro W base args ds gs before hval0 hW hcnd _
  have hval : ∀ (j : Nat) t v, Try.f4.params[j]? = some t → args[j]? = some v → Value.okWide Try.prog W .any base t v := hval0
  have hW' := hW
  obtain ⟨p, q, hA0, hV, rfl, hfz, hnd⟩ := hW
  have hA : DataW.TrodAll enc Try.prog W 0 (fun _ => true) true Try.f4.params.toList args.toList ds p := hA0
  rw [Try.params4] at hA hval
  obtain ⟨v0, vs0, d0, ds0, p0, q0, hargs, rfl, rfl, h0, r0⟩ := trodAll_cons hA
  obtain ⟨rfl, rfl, rfl⟩ := trodAll_nil r0
  obtain rfl : args = #[v0] := by cases args; simp_all
  obtain ⟨rfl, rfl⟩ := trodVars_none hV
  obtain ⟨a0, len0, cap0, rfl⟩ := okWide_slice Try.underlying31 (hval 0 31 v0 rfl rfl)
  have k0 := h0
  have lt0 : ∀ x ∈ p0, x.block < W.heap.size := by obtain ⟨m, hm⟩ := k0; exact DataW.trod_lt m _ _ _ hm
  obtain ⟨z0, w0⟩ : ∃ zs, Ns W W.heap.size (.slice a0 len0 cap0) zs := by
    obtain ⟨fuel, hf⟩ := h0
    rcases open_ints Try.underlying31 Try.underlying3 (by kernel_rfl) hf with ⟨hcs, _⟩ | ⟨x, l, c, zs, hcs, _, hl, hm, hz, _, hcell, hwz⟩
    · simp [Value.cells] at hcs
      obtain ⟨rfl, rfl, rfl⟩ := hcs
      exact ⟨[], Ns.nil⟩
    · simp [Value.cells] at hcs
      obtain ⟨rfl, rfl, rfl⟩ := hcs
      exact Ns.of_cells hl hm (by simpa using hz) hcell hwz
  clear hA0 hval0
  refine (DeadBuilt_walk W a0 len0 cap0 z0 w0).mono fun e W' ⟨he, bel⟩ => ?_
  subst he
  exact ⟨_, rfl, _, _, _, [], _, [], hW', trodAll_mk1 (shut_bool Try.underlying4 _), (trodAll_cons_mk (Below.trod laidOut (by kernel_rfl) (of_decide_eq_true (by kernel_rfl)) k0 bel lt0) trodAll_mk0), rfl, bel.frame _, fun h => by cases h⟩

theorem over : Rows.deadBuiltRow.holds Try.pinned (OpenSpec.ofChange Rows.deadBuiltSpec) :=
  OpenClaim.holds_of_wide 4 Try.f4 rfl rfl rfl rfl rfl rfl rfl ⟨rfl, rfl, rfl, rfl, rfl⟩ rfl rfl rfl rfl rfl (by kernel_rfl) Try.func4 (by kernel_rfl)
    (of_decide_eq_true (by kernel_rfl)) (by unfold Func.isWrapper; first | (rw [if_pos (by decide +kernel)]; kernel_rfl) | (rw [if_neg (by decide +kernel)]; exact ⟨rfl, rfl⟩))
    (fun os started H enc _ => lifted os started H enc)

/-- The statement. -/
theorem proved : Rows.DeadBuiltSaid := over
#print axioms proved
end deadBuilt
end Go.Proofs.Ytbeafcjbldnkhaa
