/- What is proved here: shardqueuelaw13.LockerNew returns true for every input and leaves its arguments as they were. No condition. -/
import Derived.Test.YtommkhjgockpfaaJ48
import Derived.Test.YtommkhjgockpfaaJ52
import Derived.Test.YtommkhjgockpfaaJ44
import Derived.Test.YtommkhjgockpfaaJ27
import Derived.Deep.AppendLies
import Derived.ProofKit
import Derived.OpenShut
import Derived.ChangeOld
import Derived.Deep.DeepCutAuto
import Derived.Deep.RegionHeld3
namespace Go.Proofs.Ytommkhjgockpfaa
open Go.RowKit
set_option linter.unusedVariables false

/-- A locker in a box. -/
structure Bx13 (W : World) (q : Nat) (l : Lk) (A : Option Addr) (c : Nat) : Prop where
  lb : LB W q l A c
  fl : Fl W W.heap.size (.slice A l.cs.length c) l.cs
theorem Bx13.up {W W' : World} {q : Nat} {l : Lk} {A : Option Addr} {c : Nat} (h : Bx13 W q l A c) (hb : Below W.heap.size W W') : Bx13 W' q l A c := ⟨h.lb.up hb, h.fl.up hb⟩
theorem Bx13.start {W : World} {l : Lk} {A : Option Addr} {c : Nat} (h : Fl W W.heap.size (.slice A l.cs.length c) l.cs) : Bx13 (W.alloc (.cells #[.slice A l.cs.length c, .int .i64 l.ph, .int .i64 l.hv, .int .i64 l.tr, .int .i64 l.wt] 28)) W.heap.size l A c := ⟨LB.start W l A c _, h.alloc2 _⟩
set_option maxHeartbeats 8000000 in
set_option maxRecDepth 20000 in
theorem LockerNew_walk (w : World) (a1 : Option Addr) (l1 c1 : Nat) (zs : List Int) (hz : Ns w w.heap.size (.slice a1 l1 c1) zs) (a2 : Option Addr) (l2 c2 : Nat) (ys : List Int) (hy : Ns w w.heap.size (.slice a2 l2 c2) ys) :
    Calls Try.prog 3 #[.slice a1 l1 c1, .slice a2 l2 c2] w fun e w' => e = .returned (.bool true) ∧ Below w.heap.size w w' := by
  have HAW := Lib.hid (fun W => awake13_any W)
  have HNS := Lib.hid (new_src a2 l2 c2 ys w hy)
  have hf := Fl.of_ns hz
  obtain ⟨rfl, -, -⟩ := hf.len
  have HF := Lib.hid hf
  clear hz hy hf
  by_cases h20 : (20 : Int) < (zs.length : Int)
  · clear HAW HNS HF
    go_enter Try.func3, Try.ntmps3
    go_wp2
    go_ret
    exact ⟨rfl, Below.refl _ _⟩
  · obtain ⟨i0, hi0, hz0⟩ := Option.map_eq_some_iff.1 info_ni
    simp only [Prod.mk.injEq] at hz0
    have HI := Lib.hid hi0
    have HZ := Lib.hid hz0
    clear hi0 hz0
    go_enter Try.func3, Try.ntmps3
    go_wp2_with fail
    refine HNS.out.mono ?_
    rintro e w2 ⟨g, rfl, hs, hb⟩
    have H0 := Lib.hid (JW.start hs)
    have HB := Lib.hid hb
    have HG := Lib.hid (show w.heap.size ≤ g from hs.1)
    clear hs hb HNS h20
    go_wp2_with fail
    refine (n_any w.heap.size g _ H0.out.src 5 (by omega) (by omega)).mono ?_
    rintro e w3 ⟨ni, rfl, n0, n1, hs, hg⟩
    have H1 := Lib.hid (H0.out.turn hs hg)
    obtain ⟨m, rfl⟩ : ∃ m : Nat, ni = (m : Int) := ⟨ni.toNat, by omega⟩
    have hm4 : m ≤ 4 := by omega
    clear hs hg n0 n1 H0
    go_wp2_with fail
    go_loopw [6, 7] (fun sv iv wr => ∃ (i : Nat) (A : Option Addr) (c : Nat) (cs : List Int), iv = .int .i64 i ∧ sv = .slice A cs.length c ∧ i + cs.length ≤ 4 ∧ Hid (JW w2 w.heap.size g A c cs wr)) (fun _ iv _ => (intOf iv).toNat)
    case atStart => exact ⟨m, none, 0, [], rfl, rfl, by simpa using hm4, H1⟩
    case round =>
      clear H1 hm4
      obtain ⟨i, A, c, cs, rfl, rfl, hil, HY⟩ := hrel
      have HLN := Lib.hid hil
      by_cases hi : 0 < i
      · have hi' : (0 : Int) < (i : Int) := by omega
        have HI1 := Lib.hid hi
        have hw2 : IntKind.i64.wrap ((i : Int) - 1) = (i : Int) - 1 := IntWalk.i64_in _ (by omega)
        have hw3 : wrap64 ((i : Int) - 1) = (i : Int) - 1 := IntWalk.wrap64_in _ (by omega)
        clear hil hi
        go_wp2_with fail
        refine (range2_any w.heap.size g _ HY.out.src (-1) 7 (by omega) (by omega) (by omega)).mono ?_
        rintro e w5 ⟨x, rfl, -, -, hs, hg⟩
        have HY := Lib.hid (HY.out.turn hs hg)
        clear hs hg
        go_wp2_with (at_builtin; refine wpList_append_lies _ rfl _ _ _ rfl w2.heap.size 3 i0 _ 1 8 Try.underlying22 HI.out HZ.out.1 HZ.out.2.1 HZ.out.2.2 rfl (by omega) (.slice A cs.length c) cs.length (ics cs) (by rfl) (HY.out.alloc _).own ⟨w5.heap.size, 0, none⟩ 1 1 [.int .i64 x] (by rfl) (by rfl) (World.news_of_block (cs := #[.int .i64 x]) (t := 3) (fr := (0, 0)) (heap_alloc_new w5 _)) (by intro u hu; simp at hu; subst hu; rfl) (by omega) (by have := HLN.out; unfold maxLen; omega) (by have := HLN.out; omega) ((HY.out.alloc _).grow.size) _ rfl ?_; intro g1 cp1 w8 hown1 hgrow1 hat1 hlt1; have HP8 := Lib.hid ((HY.out.alloc _).app (x := x) hown1 hgrow1); clear hown1 hgrow1 hat1 hlt1)
        exact ⟨⟨i - 1, _, _, cs ++ [x], by congr 1; omega, by simp, by have := HLN.out; simp; omega, HP8⟩, by simp [intOf]; omega⟩
      · have hi0 : i = 0 := by omega
        subst hi0
        clear hil hi HI HZ
        have HBR := Lib.hid (HB.out.grown HY.out.grow HB.out.size (fun k e => by injection e with e; have := HG.out; omega))
        have HL1 := Lib.hid (Fl.up HF.out HBR.out)
        have HL2 := Lib.hid HY.out.fl
        obtain ⟨E, hE⟩ : ∃ E, E = nwE13 zs := ⟨_, rfl⟩
        obtain ⟨M, hM⟩ : ∃ M, M = nwL13 zs := ⟨_, rfl⟩
        obtain ⟨F, hF⟩ : ∃ E, E = nwE13 cs := ⟨_, rfl⟩
        obtain ⟨K, hK⟩ : ∃ M, M = nwL13 cs := ⟨_, rfl⟩
        have HN1 := Lib.hid (fun W (h : Fl W W.heap.size (.slice a1 zs.length c1) zs) => jnew_any a1 c1 zs W h)
        have HN2 := Lib.hid (fun W (h : Fl W W.heap.size (.slice a1 zs.length c1) zs) => rnew13_any a1 c1 zs W h)
        have HN3 := Lib.hid (fun W (h : Fl W W.heap.size (.slice A cs.length c) cs) => jnew_any A c cs W h)
        have HN4 := Lib.hid (fun W (h : Fl W W.heap.size (.slice A cs.length c) cs) => rnew13_any A c cs W h)
        rw [← hE, ← hM] at HN1 HN2
        rw [← hF, ← hK] at HN3 HN4
        clear hE hM hF hK HY HB
        go_wp2_with fail
        refine (HN1.out _ HL1.out).mono ?_
        rintro e x1 ⟨A1, d1, rfl, -, hl, hb⟩
        have hal := (Below.refl x1.heap.size x1).alloc (Nat.le_refl _) (.cells #[.slice A1 M.cs.length d1, .int .i64 M.ph, .int .i64 M.hv, .int .i64 M.tr, .int .i64 M.wt] 28)
        have HX1 := Lib.hid (Bx13.start hl)
        have HBR := Lib.hid ((HBR.out.trans (hb.mono HBR.out.size)).trans (hal.mono (Nat.le_trans HBR.out.size hb.size)))
        have HL1 := Lib.hid ((HL1.out.up hb).up hal)
        have HL2 := Lib.hid ((HL2.out.up hb).up hal)
        clear hl hb hal HN1
        go_upto_region 10 with (fail)
        obtain ⟨q1, hq⟩ : ∃ q, q = x1.heap.size := ⟨_, rfl⟩
        rw [← hq] at HX1 ⊢
        clear hq
        generalize (x1.alloc (.cells #[.slice A1 M.cs.length d1, .int .i64 M.ph, .int .i64 M.hv, .int .i64 M.tr, .int .i64 M.wt] 28)) = y1 at *
        go_wp2_with fail
        refine (HN2.out _ HL1.out).mono ?_
        rintro e x2 ⟨A2, d2, rfl, -, hl, hb⟩
        have hal := (Below.refl x2.heap.size x2).alloc (Nat.le_refl _) (.cells #[.slice A2 M.cs.length d2, .int .i64 M.ph, .int .i64 M.hv, .int .i64 M.tr, .int .i64 M.wt] 28)
        have HX2 := Lib.hid (Bx13.start hl)
        have HX1 := Lib.hid ((HX1.out.up hb).up hal)
        have HBR := Lib.hid ((HBR.out.trans (hb.mono HBR.out.size)).trans (hal.mono (Nat.le_trans HBR.out.size hb.size)))
        have HL2 := Lib.hid ((HL2.out.up hb).up hal)
        clear hl hb hal HN2 HL1
        go_upto_region 11 with (fail)
        obtain ⟨q2, hq⟩ : ∃ q, q = x2.heap.size := ⟨_, rfl⟩
        rw [← hq] at HX2 ⊢
        clear hq
        generalize (x2.alloc (.cells #[.slice A2 M.cs.length d2, .int .i64 M.ph, .int .i64 M.hv, .int .i64 M.tr, .int .i64 M.wt] 28)) = y2 at *
        go_wp2_with fail
        refine (HN3.out _ HL2.out).mono ?_
        rintro e x3 ⟨A3, d3, rfl, -, hl, hb⟩
        have hal := (Below.refl x3.heap.size x3).alloc (Nat.le_refl _) (.cells #[.slice A3 K.cs.length d3, .int .i64 K.ph, .int .i64 K.hv, .int .i64 K.tr, .int .i64 K.wt] 28)
        have HX3 := Lib.hid (Bx13.start hl)
        have HX1 := Lib.hid ((HX1.out.up hb).up hal)
        have HX2 := Lib.hid ((HX2.out.up hb).up hal)
        have HBR := Lib.hid ((HBR.out.trans (hb.mono HBR.out.size)).trans (hal.mono (Nat.le_trans HBR.out.size hb.size)))
        have HL2 := Lib.hid ((HL2.out.up hb).up hal)
        clear hl hb hal HN3
        go_upto_region 12 with (fail)
        obtain ⟨q3, hq⟩ : ∃ q, q = x3.heap.size := ⟨_, rfl⟩
        rw [← hq] at HX3 ⊢
        clear hq
        generalize (x3.alloc (.cells #[.slice A3 K.cs.length d3, .int .i64 K.ph, .int .i64 K.hv, .int .i64 K.tr, .int .i64 K.wt] 28)) = y3 at *
        go_wp2_with fail
        refine (HN4.out _ HL2.out).mono ?_
        rintro e x4 ⟨A4, d4, rfl, -, hl, hb⟩
        have hal := (Below.refl x4.heap.size x4).alloc (Nat.le_refl _) (.cells #[.slice A4 K.cs.length d4, .int .i64 K.ph, .int .i64 K.hv, .int .i64 K.tr, .int .i64 K.wt] 28)
        have HX4 := Lib.hid (Bx13.start hl)
        have HX1 := Lib.hid ((HX1.out.up hb).up hal)
        have HX2 := Lib.hid ((HX2.out.up hb).up hal)
        have HX3 := Lib.hid ((HX3.out.up hb).up hal)
        have HBR := Lib.hid ((HBR.out.trans (hb.mono HBR.out.size)).trans (hal.mono (Nat.le_trans HBR.out.size hb.size)))
        clear hl hb hal HN4 HL2
        go_upto_region 13 with (fail)
        obtain ⟨q4, hq⟩ : ∃ q, q = x4.heap.size := ⟨_, rfl⟩
        rw [← hq] at HX4 ⊢
        clear hq
        generalize (x4.alloc (.cells #[.slice A4 K.cs.length d4, .int .i64 K.ph, .int .i64 K.hv, .int .i64 K.tr, .int .i64 K.wt] 28)) = y4 at *
        obtain ⟨u0, u1, u2, u3, u4⟩ := HX1.out.lb.k
        have ul := HX1.out.lb.lt
        obtain ⟨v0, v1, v2, v3, v4⟩ := HX2.out.lb.k
        have vl := HX2.out.lb.lt
        go_wp2_with fail
        clear u0 u1 u2 u3 u4 ul v0 v1 v2 v3 v4 vl
        refine (rsame13_yes M A1 A2 d1 d2 _ HX1.out.fl HX2.out.fl).mono ?_
        rintro e y5 ⟨rfl, hb⟩
        have HX3 := Lib.hid (HX3.out.up hb)
        have HX4 := Lib.hid (HX4.out.up hb)
        have HBR := Lib.hid (HBR.out.trans (hb.mono HBR.out.size))
        clear hb HX1 HX2
        obtain ⟨u0, u1, u2, u3, u4⟩ := HX3.out.lb.k
        have ul := HX3.out.lb.lt
        obtain ⟨v0, v1, v2, v3, v4⟩ := HX4.out.lb.k
        have vl := HX4.out.lb.lt
        go_wp2_with fail
        clear u0 u1 u2 u3 u4 ul v0 v1 v2 v3 v4 vl
        refine (rsame13_yes K A3 A4 d3 d4 _ HX3.out.fl HX4.out.fl).mono ?_
        rintro e y6 ⟨rfl, hb⟩
        have HBR := Lib.hid (HBR.out.trans (hb.mono HBR.out.size))
        clear hb HX3 HX4
        go_wp2_with fail
        refine (HAW.out _).mono ?_
        rintro e y7 ⟨rfl, hb⟩
        have HFIN := Lib.hid (HBR.out.trans (hb.mono HBR.out.size))
        clear hb HBR
        go_wp2
        go_ret
        exact ⟨rfl, HFIN.out⟩
/-! The row's step, as the guide's shell has it. -/
namespace lockerNew
open Go.ChangeShapes Go.WideShapes Go.ChangeAt
open Go.ChangeMaps (open_string shut_string)
theorem own : ownKnob Try.prog.godebug = none := by kernel_rfl
theorem laidOut : laidOutB Try.prog = true := by kernel_rfl

set_option maxRecDepth 100000 in
theorem lifted (os : Os) (started : os.Started) (H : Type) (enc : TypeId × Value → H) :
    ReturnsInHanded {} Try.checked os 3 .any (Rows.lockerNewSpec.pre6 enc Try.prog Try.f3 Rows.lockerNewRow.domain false) (Rows.lockerNewSpec.post enc Try.prog Try.f3 false true false false) := by
  refine returnsInHanded_of_change (C := Try.checked) own started (by kernel_rfl) Try.func3
    (ChangeSpec.witness6 (enc := enc) (C := Try.checked) false ⟨#[], #[.slice none 0 0, .slice none 0 0], []⟩ 8 (by kernel_rfl) (by kernel_rfl) (by kernel_rfl) (by kernel_rfl)) ?_
  intro W base args ds gs before hval0 hW hcnd _
  have hval : ∀ (j : Nat) t v, Try.f3.params[j]? = some t → args[j]? = some v → Value.okWide Try.prog W .any base t v := hval0
  have hW' := hW
  obtain ⟨p, q, hA0, hV, rfl, hfz, hnd⟩ := hW
  have hA : DataW.TrodAll enc Try.prog W 0 (fun _ => true) true Try.f3.params.toList args.toList ds p := hA0
  rw [Try.params3] at hA hval
  obtain ⟨v0, vs0, d0, ds0, p0, q0, hargs, rfl, rfl, h0, r0⟩ := trodAll_cons hA
  obtain ⟨v1, vs1, d1, ds1, p1, q1, rfl, rfl, rfl, h1, r1⟩ := trodAll_cons r0
  obtain ⟨rfl, rfl, rfl⟩ := trodAll_nil r1
  obtain rfl : args = #[v0, v1] := by cases args; simp_all
  obtain ⟨rfl, rfl⟩ := trodVars_none hV
  obtain ⟨a0, len0, cap0, rfl⟩ := okWide_slice Try.underlying22 (hval 0 22 v0 rfl rfl)
  have k0 := h0
  have lt0 : ∀ x ∈ p0, x.block < W.heap.size := by obtain ⟨m, hm⟩ := k0; exact DataW.trod_lt m _ _ _ hm
  obtain ⟨z0, w0⟩ : ∃ zs, Ns W W.heap.size (.slice a0 len0 cap0) zs := by
    obtain ⟨fuel, hf⟩ := h0
    rcases open_ints Try.underlying22 Try.underlying3 (by kernel_rfl) hf with ⟨hcs, _⟩ | ⟨x, l, c, zs, hcs, _, hl, hm, hz, _, hcell, hwz⟩
    · simp [Value.cells] at hcs
      obtain ⟨rfl, rfl, rfl⟩ := hcs
      exact ⟨[], Ns.nil⟩
    · simp [Value.cells] at hcs
      obtain ⟨rfl, rfl, rfl⟩ := hcs
      exact Ns.of_cells hl hm (by simpa using hz) hcell hwz
  obtain ⟨a1, len1, cap1, rfl⟩ := okWide_slice Try.underlying22 (hval 1 22 v1 rfl rfl)
  have k1 := h1
  have lt1 : ∀ x ∈ p1, x.block < W.heap.size := by obtain ⟨m, hm⟩ := k1; exact DataW.trod_lt m _ _ _ hm
  obtain ⟨z1, w1⟩ : ∃ zs, Ns W W.heap.size (.slice a1 len1 cap1) zs := by
    obtain ⟨fuel, hf⟩ := h1
    rcases open_ints Try.underlying22 Try.underlying3 (by kernel_rfl) hf with ⟨hcs, _⟩ | ⟨x, l, c, zs, hcs, _, hl, hm, hz, _, hcell, hwz⟩
    · simp [Value.cells] at hcs
      obtain ⟨rfl, rfl, rfl⟩ := hcs
      exact ⟨[], Ns.nil⟩
    · simp [Value.cells] at hcs
      obtain ⟨rfl, rfl, rfl⟩ := hcs
      exact Ns.of_cells hl hm (by simpa using hz) hcell hwz
  clear hA0 hval0
  refine (LockerNew_walk W a0 len0 cap0 z0 w0 a1 len1 cap1 z1 w1).mono fun e W' ⟨he, bel⟩ => ?_
  subst he
  exact ⟨_, rfl, _, _, _, [], _, [], hW', trodAll_mk1 (shut_bool Try.underlying4 _), (trodAll_cons_mk (Below.trod laidOut (by kernel_rfl) (of_decide_eq_true (by kernel_rfl)) k0 bel lt0) (trodAll_cons_mk (Below.trod laidOut (by kernel_rfl) (of_decide_eq_true (by kernel_rfl)) k1 bel lt1) trodAll_mk0)), rfl, bel.frame _, fun h => by cases h⟩

theorem over : Rows.lockerNewRow.holds Try.pinned (OpenSpec.ofChange Rows.lockerNewSpec) :=
  OpenClaim.holds_of_wide 3 Try.f3 rfl rfl rfl rfl rfl rfl rfl ⟨rfl, rfl, rfl, rfl, rfl⟩ rfl rfl rfl rfl rfl (by kernel_rfl) Try.func3 (by kernel_rfl)
    (of_decide_eq_true (by kernel_rfl)) (by unfold Func.isWrapper; first | (rw [if_pos (by decide +kernel)]; kernel_rfl) | (rw [if_neg (by decide +kernel)]; exact ⟨rfl, rfl⟩))
    (fun os started H enc _ => lifted os started H enc)

/-- The statement. -/
theorem proved : Rows.LockerNewSaid := over
#print axioms proved
end lockerNew
end Go.Proofs.Ytommkhjgockpfaa
