/- What is proved here: shardqueuelaw02.DigestChange returns true for every input and leaves its argument as it was: one byte that differs makes another sum. No condition. -/
import Derived.Test.YtboencbblplhbaaAwd
import Derived.ProofKit
import Derived.OpenShut
import Derived.ShutString
import Derived.ChangeOld
namespace Go.Proofs.Ytboencbblplhbaa
open Go.RowKit
set_option linter.unusedVariables false

theorem xor_back (a c : Nat) : (a ^^^ c) ^^^ c = a := by rw [Nat.xor_assoc, Nat.xor_self, Nat.xor_zero]
theorem xor_front (a c : Nat) : a ^^^ (a ^^^ c) = c := by rw [← Nat.xor_assoc, Nat.xor_self, Nat.zero_xor]

theorem times_back (x : Nat) (hx : x < 4294967296) : (x * 16777619 % 4294967296) * 899433627 % 4294967296 = x := by
  rw [Nat.mod_mul_mod]
  omega
theorem times_odd (x y : Nat) (hx : x < 4294967296) (hy : y < 4294967296) (h : x * 16777619 % 4294967296 = y * 16777619 % 4294967296) : x = y := by
  rw [← times_back x hx, h, times_back y hy]
theorem toNat_byte (n : Nat) (h : n < 256) : (UInt8.ofNat n).toNat = n := by simp; omega

theorem fst1_left (h h' b : Nat) (hh : h < 4294967296) (hh' : h' < 4294967296) (hb : b < 256) (e : fst1 h b = fst1 h' b) : h = h' := by
  have := times_odd (h ^^^ b) (h' ^^^ b) (Nat.xor_lt_two_pow (n := 32) (by omega) (by omega)) (Nat.xor_lt_two_pow (n := 32) (by omega) (by omega)) e
  rw [← xor_back h b, this, xor_back]
theorem fst1_right (h b b' : Nat) (hh : h < 4294967296) (hb : b < 256) (hb' : b' < 256) (e : fst1 h b = fst1 h b') : b = b' := by
  have := times_odd (h ^^^ b) (h ^^^ b') (Nat.xor_lt_two_pow (n := 32) (by omega) (by omega)) (Nat.xor_lt_two_pow (n := 32) (by omega) (by omega)) e
  rw [← xor_front h b, this, xor_front]

theorem fnvOn_inj (bs : List UInt8) (h h' : Nat) (hh : h < 4294967296) (hh' : h' < 4294967296) (e : fnvOn h bs = fnvOn h' bs) : h = h' := by
  induction bs generalizing h h' with
  | nil => exact e
  | cons b r ih => exact fst1_left h h' b.toNat hh hh' (UInt8.toNat_lt b) (ih _ _ (fst1_lt _ _) (fst1_lt _ _) e)

theorem fnvOn_set (bs : List UInt8) (h k : Nat) (z : UInt8) (hh : h < 4294967296) (hk : k < bs.length) (hz : z ≠ bs[k]) : fnvOn h (bs.set k z) ≠ fnvOn h bs := by
  induction bs generalizing h k with
  | nil => simp at hk
  | cons b r ih =>
    cases k with
    | zero =>
      intro e
      have := fst1_right h z.toNat b.toNat hh (UInt8.toNat_lt z) (UInt8.toNat_lt b) (fnvOn_inj r _ _ (fst1_lt _ _) (fst1_lt _ _) e)
      exact hz (UInt8.toNat_inj.1 this)
    | succ k => exact ih (fst1 h b.toNat) k (fst1_lt _ _) (by simpa using hk) (by simpa using hz)

theorem fnv_cons (b : UInt8) (bs : List UInt8) : fnv (b :: bs) = fnvOn (fst1 2166136261 b.toNat) bs := rfl

theorem set_ne (bs : List UInt8) (k : Nat) (z : UInt8) (hk : k < bs.length) (hz : z ≠ bs[k]) : (bs.set k z == bs) = false := by
  have : bs.set k z ≠ bs := fun e => hz (by
    have h := congrArg (fun l => l[k]?) e
    simpa [hk] using h)
  simpa using this

theorem xor_u8 (a b : Nat) (ha : a < 256) (hb : b < 256) : bits .xor .u8 (a : Int) (b : Int) = ((a ^^^ b : Nat) : Int) := by
  have hx : a ^^^ b < 2 ^ 8 := Nat.xor_lt_two_pow (by omega) (by omega)
  have e : ∀ n : Nat, n < 256 → (BitVec.ofInt 8 (n : Int)).toNat = n := fun n hn => by rw [BitVec.ofInt_natCast, BitVec.toNat_ofNat]; exact Nat.mod_eq_of_lt (by omega)
  show IntKind.u8.wrap ((BitVec.ofInt 8 (a : Int) ^^^ BitVec.ofInt 8 (b : Int)).toNat : Int) = _
  rw [BitVec.toNat_xor, e a ha, e b hb]
  unfold IntKind.wrap
  simp [IntKind.bits, IntKind.signed]
  omega

set_option maxHeartbeats 2000000 in
set_option maxRecDepth 20000 in
theorem DigestChange_walk (w : World) (a0 : Option Addr) (l c : Nat) (bs : List UInt8) (hv : Bs w w.heap.size (.slice a0 l c) bs) (at_ : Int) (wa : (Lit.int .i64 at_).wf = true) (by_ : Int) (wb : (Lit.int .u8 by_).wf = true) :
    Calls Try.prog 6 #[.slice a0 l c, .int .i64 at_, .int .u8 by_] w fun e w' => e = .returned (.bool true) ∧ Below w.heap.size w w' := by
  obtain ⟨rfl, hlc, hm⟩ := hv.len
  by_cases c0 : (bs.length : Int) = 0
  · have c0' : ((bs.length : Int) == 0) = true := by simpa using c0
    clear hv wa wb hlc hm c0
    go_enter Try.func6, Try.ntmps6
    go_wp2
    go_ret
    exact ⟨rfl, Below.refl _ _⟩
  have c0' : ((bs.length : Int) == 0) = false := by simpa using c0
  by_cases c1 : (500 : Int) < (bs.length : Int)
  · clear hv wa wb hlc hm c0
    go_enter Try.func6, Try.ntmps6
    go_wp2
    go_ret
    exact ⟨rfl, Below.refl _ _⟩
  by_cases c2 : by_ = 0
  · subst c2
    clear hv wa wb hlc hm c0
    go_enter Try.func6, Try.ntmps6
    go_wp2
    go_ret
    exact ⟨rfl, Below.refl _ _⟩
  have c2' : (by_ == 0) = false := by simpa using c2
  by_cases c3 : at_ < 0
  · clear hv wa wb hlc hm c0 c2
    go_enter Try.func6, Try.ntmps6
    go_wp2
    go_ret
    exact ⟨rfl, Below.refl _ _⟩
  have hb255 : 0 ≤ by_ ∧ by_ ≤ 255 := by
    simp only [Lit.wf, Bool.and_eq_true, decide_eq_true_eq] at wb
    exact wb
  obtain ⟨y, rfl⟩ := Int.eq_ofNat_of_zero_le hb255.1
  obtain ⟨k, hk, hkl⟩ : ∃ k : Nat, at_ % (bs.length : Int) = (k : Int) ∧ k < bs.length := by
    have h0 := Int.emod_nonneg at_ (b := (bs.length : Int)) (by omega)
    have h1 := Int.emod_lt_of_pos at_ (b := (bs.length : Int)) (by omega)
    exact ⟨(at_ % (bs.length : Int)).toNat, by omega, by omega⟩
  obtain ⟨x, hx⟩ : ∃ x, x = bs[k].toNat := ⟨_, rfl⟩
  have hx8 : x < 256 := by rw [hx]; exact UInt8.toNat_lt _
  have hxor := xor_u8 x y hx8 (by omega)
  have hz8 : x ^^^ y < 256 := Nat.xor_lt_two_pow (n := 8) (by omega) (by omega)
  have hzn := toNat_byte _ hz8
  have hne : UInt8.ofNat (x ^^^ y) ≠ bs[k] := by
    intro e
    have e1 : x ^^^ y = x := by rw [← hzn, e, ← hx]
    have e2 := xor_front x y
    rw [e1, Nat.xor_self] at e2
    omega
  obtain ⟨z, hz⟩ : ∃ z, z = UInt8.ofNat (x ^^^ y) := ⟨_, rfl⟩
  rw [← hz] at hne hzn
  have hoct : oct z = .int .u8 ((x ^^^ y : Nat) : Int) := by unfold oct; rw [hzn]
  have n1 : fnv (bs.set k z) ≠ fnv bs := fnvOn_set bs _ k z (by decide) hkl hne
  have n2 : fnv (90 :: bs.set k z) ≠ fnv (90 :: bs) := by rw [fnv_cons, fnv_cons]; exact fnvOn_set bs _ k z (fst1_lt _ _) hkl hne
  have n3 := set_ne bs k z hkl hne
  have hs0 : (bs.set k z).length = bs.length := by simp
  have b1 := fnv_lt bs
  obtain ⟨i0, hi0, hz0, hz1, hz2⟩ := info_parts info_u8
  have HV := Lib.hid hv
  have HL := Lib.hid (show bs.length ≤ 2000 by omega)
  have HS := Lib.hid hs0
  have HR := Lib.hid hv.rd
  have HA := Lib.hid (fun w => awake2_any w)
  have HX := Lib.hid hx
  have HO := Lib.hid hoct
  have H1 := Lib.hid n1
  have H2 := Lib.hid n2
  have H3 := Lib.hid n3
  have HF := Lib.hid b1
  have hlen : (bs.length : Int) ≤ 500 := by omega
  have hlen1 : (1 : Int) ≤ (bs.length : Int) := by omega
  have ha0 : 0 ≤ at_ := by omega
  obtain ⟨q, hq⟩ : ∃ q, q = x ^^^ y := ⟨_, rfl⟩
  rw [← hq] at hxor HO hz8
  have hq8 : (q : Int) ≤ 255 := by omega
  clear hv wa wb hlc hm c0 c1 hb255 hx hne hzn hz hoct n1 n2 n3 hs0 b1 c2 hx8 hz8 hq
  go_enter Try.func6, Try.ntmps6
  go_wp2_with (at_builtin; refine wpList_append_rd _ rfl _ _ 22 rfl w.heap.size 5 i0 _ 1 1 Try.underlying22 hi0 hz0 hz1 hz2 rfl (by omega) _ _ _ rfl (World.ownsRow_nil _ _ _ _) _ _ _ _ _ rfl HR.out (oct_one _) (by have := HL.out; unfold maxLen; omega) (by have := HL.out; omega) (by omega) ?_; intro v2 w2 hown2 hg2 hj2)
  simp only [Nat.zero_add, List.nil_append] at hown2
  obtain ⟨A2, c2, rfl⟩ := own_form hown2
  obtain ⟨g, rfl, hge, hlt2⟩ : ∃ g, A2 = some ⟨g, 0, none⟩ ∧ w.heap.size ≤ g ∧ g < w2.heap.size := by
    rcases hown2.2 with ⟨_, h0⟩ | ⟨g, cap, cur, hv, hb, hh, _⟩
    · omega
    · injection hv with hA _ _
      exact ⟨g, hA, hb, (Array.getElem?_eq_some_iff.1 hh).1⟩
  have hcell : w2.cell? ⟨g, k, none⟩ = some (.int .u8 (x : Int)) := by
    rw [hown2.cellAt k (by omega), HX.out]
    simp [hkl, oct]
  have hfr := hown2.frozenAt k
  obtain ⟨hown3, hg3⟩ := hown2.stored k (.int .u8 (q : Int))
  have hmap : (bs.map oct).set k (.int .u8 (q : Int)) = (bs.set k z).map oct := by rw [← HO.out, List.map_set]
  rw [hmap] at hown3
  have HW2 := Lib.hid ((((Below.refl _ _).grown hg2 (Nat.le_refl _) (fun k hk => (World.ownsRow.lt (World.ownsRow_nil w w.heap.size 5 1) k hk).1)) : Below w.heap.size w w2).setCell (p := ⟨g, k, none⟩) hge (.int .u8 (q : Int)))
  have HO3 := Lib.hid (Bs.of_own hown3)
  clear hown2 hg2 hown3 hg3 hmap hj2
  go_wp2
  have hh := run_len_slice (P := Try.prog) (w := w2) 22 3 (some ⟨g, 0, none⟩) bs.length c2 Try.underlying22
  rw [hh]
  clear hh
  go_wp2_with fail
  refine (sum_any _ _ _ (bs.set k z) _ HO3.out (by rw [HS.out]; have := HL.out; omega)).mono ?_
  rintro e w3 ⟨rfl, rfl⟩
  have HV3 := Lib.hid ((HV.out.below HW2.out).more HW2.out.size)
  go_wp2_with fail
  refine (sum_any _ _ _ bs _ HV3.out (by have := HL.out; omega)).mono ?_
  rintro e w3 ⟨rfl, rfl⟩
  obtain ⟨s1, hs1⟩ : ∃ s, s = fnv (bs.set k z) := ⟨_, rfl⟩
  obtain ⟨s0, hs0⟩ : ∃ s, s = fnv bs := ⟨_, rfl⟩
  have hne : ((s1 : Int) != (s0 : Int)) = true := by
    have := H1.out
    rw [← hs1, ← hs0] at this
    exact bne_iff_ne.2 (by omega)
  have hsl : (s0 : Int) ≤ 4294967295 := by have := HF.out; omega
  have HS0 := Lib.hid hs0
  rw [← hs1, ← hs0]
  clear hs1 hs0
  go_wp2_with fail
  refine (check_any _ _ _ (bs.set k z) _ HO3.out (by rw [HS.out]; have := HL.out; omega)).mono ?_
  rintro e w4 ⟨rfl, hb⟩
  have HW4 := Lib.hid (HW2.out.trans (hb.mono HW2.out.size))
  have HV4 := Lib.hid ((HV3.out.below hb).more hb.size)
  have HO4 := Lib.hid ((HO3.out.below hb).more hb.size)
  clear hb
  go_wp2_with fail
  refine (check_any _ _ _ bs _ HV4.out (by have := HL.out; omega)).mono ?_
  rintro e w5 ⟨rfl, hb⟩
  have HW5 := Lib.hid (HW4.out.trans (hb.mono HW4.out.size))
  have HV5 := Lib.hid ((HV4.out.below hb).more hb.size)
  have HO5 := Lib.hid ((HO4.out.below hb).more hb.size)
  clear hb
  obtain ⟨t1, ht1⟩ : ∃ s, s = fnv (90 :: bs.set k z) := ⟨_, rfl⟩
  obtain ⟨t0, ht0⟩ : ∃ s, s = fnv (90 :: bs) := ⟨_, rfl⟩
  have hnt : ((t1 : Int) != (t0 : Int)) = true := by
    have := H2.out
    rw [← ht1, ← ht0] at this
    exact bne_iff_ne.2 (by omega)
  rw [← ht1, ← ht0]
  clear ht1 ht0
  go_wp2_with fail
  refine (sum_any _ _ _ bs _ HV5.out (by have := HL.out; omega)).mono ?_
  rintro e w6 ⟨rfl, rfl⟩
  rw [← HS0.out]
  go_wp2_with fail
  refine (sum_any _ _ _ bs _ HV5.out (by have := HL.out; omega)).mono ?_
  rintro e w6 ⟨rfl, rfl⟩
  rw [← HS0.out]
  go_wp2_with fail
  refine (same_any _ _ _ _ _ HO5.out HV5.out).mono ?_
  rintro e w6 ⟨rfl, rfl⟩
  rw [H3.out]
  go_wp2_with fail
  refine (HA.out _).mono ?_
  rintro e w6 ⟨rfl, hb⟩
  have HW6 := Lib.hid (HW5.out.trans (hb.mono HW5.out.size))
  clear hb
  go_wp2
  go_ret
  exact ⟨rfl, HW6.out⟩

/-! The row's step, as the guide's shell has it. -/
namespace digestChange
open Go.ChangeShapes Go.WideShapes Go.ChangeAt
open Go.ChangeMaps (open_string shut_string)
theorem own : ownKnob Try.prog.godebug = none := by kernel_rfl
theorem laidOut : laidOutB Try.prog = true := by kernel_rfl

set_option maxRecDepth 100000 in
theorem lifted (os : Os) (started : os.Started) (H : Type) (enc : TypeId × Value → H) :
    ReturnsInHanded {} Try.checked os 6 .any (Rows.digestChangeSpec.pre6 enc Try.prog Try.f6 Rows.digestChangeRow.domain false) (Rows.digestChangeSpec.post enc Try.prog Try.f6 false true false false) := by
  refine returnsInHanded_of_change (C := Try.checked) own started (by kernel_rfl) Try.func6
    (ChangeSpec.witness6 (enc := enc) (C := Try.checked) false ⟨#[], #[.slice none 0 0, .int .i64 0, .int .u8 0], []⟩ 8 (by kernel_rfl) (by kernel_rfl) (by kernel_rfl) (by kernel_rfl)) ?_
  intro W base args ds gs before hval0 hW hcnd _
  have hval : ∀ (j : Nat) t v, Try.f6.params[j]? = some t → args[j]? = some v → Value.okWide Try.prog W .any base t v := hval0
  have hW' := hW
  obtain ⟨p, q, hA0, hV, rfl, hfz, hnd⟩ := hW
  have hA : DataW.TrodAll enc Try.prog W 0 (fun _ => true) true Try.f6.params.toList args.toList ds p := hA0
  rw [Try.params6] at hA hval
  obtain ⟨v0, vs0, d0, ds0, p0, q0, hargs, rfl, rfl, h0, r0⟩ := trodAll_cons hA
  obtain ⟨v1, vs1, d1, ds1, p1, q1, rfl, rfl, rfl, h1, r1⟩ := trodAll_cons r0
  obtain ⟨v2, vs2, d2, ds2, p2, q2, rfl, rfl, rfl, h2, r2⟩ := trodAll_cons r1
  obtain ⟨rfl, rfl, rfl⟩ := trodAll_nil r2
  obtain rfl : args = #[v0, v1, v2] := by cases args; simp_all
  obtain ⟨rfl, rfl⟩ := trodVars_none hV
  obtain ⟨a0, len0, cap0, rfl⟩ := okWide_slice Try.underlying22 (hval 0 22 v0 rfl rfl)
  have k0 := h0
  have lt0 : ∀ x ∈ p0, x.block < W.heap.size := by obtain ⟨m, hm⟩ := k0; exact DataW.trod_lt m _ _ _ hm
  obtain ⟨z0, w0⟩ : ∃ zs, Bs W W.heap.size (.slice a0 len0 cap0) zs := by
    obtain ⟨fuel, hf⟩ := h0
    rcases open_ints Try.underlying22 Try.underlying5 (by kernel_rfl) hf with ⟨hcs, _⟩ | ⟨x, l, c, zs, hcs, _, hl, hm, hz, _, hcell, hwz⟩
    · simp [Value.cells] at hcs
      obtain ⟨rfl, rfl, rfl⟩ := hcs
      exact ⟨[], Bs.nil⟩
    · simp [Value.cells] at hcs
      obtain ⟨rfl, rfl, rfl⟩ := hcs
      exact Bs.of_cells hl hm (by simpa using hz) hcell hwz
  obtain ⟨a1, rfl, rfl, rfl, w1⟩ := open_int Try.underlying3 (hval 1 3 v1 rfl rfl) h1
  obtain ⟨a2, rfl, rfl, rfl, w2⟩ := open_int Try.underlying5 (hval 2 5 v2 rfl rfl) h2
  clear hA0 hval0
  refine (DigestChange_walk W a0 len0 cap0 z0 w0 a1 w1 a2 w2).mono fun e W' ⟨he, bel⟩ => ?_
  subst he
  exact ⟨_, rfl, _, _, _, [], _, [], hW', trodAll_mk1 (shut_bool Try.underlying4 _), (trodAll_cons_mk (Below.trod laidOut (by kernel_rfl) (of_decide_eq_true (by kernel_rfl)) k0 bel lt0) (trodAll_cons_mk (shut_int Try.underlying3 w1) (trodAll_cons_mk (shut_int Try.underlying5 w2) trodAll_mk0))), rfl, bel.frame _, fun h => by cases h⟩

theorem over : Rows.digestChangeRow.holds Try.pinned (OpenSpec.ofChange Rows.digestChangeSpec) :=
  OpenClaim.holds_of_wide 6 Try.f6 rfl rfl rfl rfl rfl rfl rfl ⟨rfl, rfl, rfl, rfl, rfl⟩ rfl rfl rfl rfl rfl (by kernel_rfl) Try.func6 (by kernel_rfl)
    (of_decide_eq_true (by kernel_rfl)) (by unfold Func.isWrapper; first | (rw [if_pos (by decide +kernel)]; kernel_rfl) | (rw [if_neg (by decide +kernel)]; exact ⟨rfl, rfl⟩))
    (fun os started H enc _ => lifted os started H enc)

/-- The statement. -/
theorem proved : Rows.DigestChangeSaid := over
#print axioms proved
end digestChange
end Go.Proofs.Ytboencbblplhbaa
