/- What is proved here: due.Validate and slices.Clone of deadlines by contracts; slices.Values of deadlines gives its elements in order to whatever loop; slices.Collect collects them; (plain) addresses and slices that lie from a block on. -/
import Derived.Test.YtobimcpkhgfliaaJ05
import Derived.WalkSpells
import Derived.RangeFuncNested
import Derived.RangeFuncBound
import Derived.RangeFuncCalls
import Derived.RangeFuncLeaves
import Derived.RangeFuncBox
import Derived.Shelf.Abstract
import Derived.Shelf.RegionOpen
import Derived.WalkKit
import Derived.OwnWalkIn
import Derived.TacticsInMore
import Derived.LoopNIn
import Derived.LoopIn
import Derived.Maps.AppendAt
import Derived.Test.YtobimcpkhgfliaaJ01
import Derived.Below
namespace Go.Proofs.Ytobimcpkhgfliaa
open Go.RowKit
set_option linter.unusedVariables false

set_option maxHeartbeats 2000000 in
theorem dvalid_any (A : Option Addr) (n c : Nat) (l : List Du) (w : World) (hv : Dl w w.heap.size (.slice A n c) l) :
    Calls Try.prog 16 #[.slice A n c] w fun e w' => e = .returned (.int .i64 (vaF l)) ∧ Below w.heap.size w w' := by
  obtain ⟨rfl, hm1, hm2⟩ := hv.len
  have HV := Lib.hid hv
  have HB := Lib.hid (Below.refl w.heap.size w)
  have H1 := Lib.hid (fun w1 hv => dcontains_any A l.length c l w1 hv)
  have H2 := Lib.hid (fun w1 hv => dsame_any A l.length c l w1 hv)
  have H3 := Lib.hid (fun h w1 hv => dordered_any A l.length c l w1 hv h)
  clear hv hm1 hm2
  by_cases h12 : 12 < l.length
  · have HR := Lib.hid (vaF_2 h12)
    have h12' : (12 : Int) < (l.length : Int) := by omega
    go_enter Try.func16, Try.ntmps16
    go_wp2
    go_ret
    exact ⟨by rw [HR.out]; rfl, HB.out⟩
  · have h12' : ¬ (12 : Int) < (l.length : Int) := by omega
    have H3 := Lib.hid (H3.out (by omega))
    have HL := Lib.hid (show l.length ≤ 12 by omega)
    have HC := Lib.hid (fun a b d => And.intro (vaF_1 (h := l) HL.out) (And.intro (fun x => vaF_10 (h := l) HL.out x a) (And.intro (fun x y => vaF_11 (h := l) HL.out x y b) (fun x y => vaF_0 (h := l) HL.out x y d))))
    cases hs : snD l with
    | false =>
      have HR := Lib.hid (vaF_1 (h := l) HL.out hs)
      rw [hs] at H1
      go_enter Try.func16, Try.ntmps16
      go_wp2_with fail
      refine (H1.out _ HV.out).mono ?_
      rintro e w1 ⟨rfl, hb⟩
      have HB1 := Lib.hid hb
      clear hb
      go_wp2
      go_ret
      exact ⟨by rw [HR.out]; rfl, HB1.out⟩
    | true =>
      rw [hs] at H1
      cases hd : dpD l with
      | true =>
        have HR := Lib.hid (vaF_10 (h := l) HL.out hs hd)
        rw [hd] at H2
        go_enter Try.func16, Try.ntmps16
        go_wp2_with fail
        refine (H1.out _ HV.out).mono ?_
        rintro e w1 ⟨rfl, hb⟩
        have HB1 := Lib.hid hb
        clear hb
        go_wp2_with fail
        refine (H2.out _ (HV.out.up HB1.out)).mono ?_
        rintro e w2 ⟨rfl, hb⟩
        have HB2 := Lib.hid (HB1.out.trans (hb.mono HB1.out.size))
        clear hb
        go_wp2
        go_ret
        exact ⟨by rw [HR.out]; rfl, HB2.out⟩
      | false =>
        rw [hd] at H2
        cases ho : hpD l with
        | false =>
          have HR := Lib.hid (vaF_11 (h := l) HL.out hs hd ho)
          rw [ho] at H3
          go_enter Try.func16, Try.ntmps16
          go_wp2_with fail
          refine (H1.out _ HV.out).mono ?_
          rintro e w1 ⟨rfl, hb⟩
          have HB1 := Lib.hid hb
          clear hb
          go_wp2_with fail
          refine (H2.out _ (HV.out.up HB1.out)).mono ?_
          rintro e w2 ⟨rfl, hb⟩
          have HB2 := Lib.hid (HB1.out.trans (hb.mono HB1.out.size))
          clear hb
          go_wp2_with fail
          refine (H3.out _ (HV.out.up HB2.out)).mono ?_
          rintro e w3 ⟨rfl, hb⟩
          have HB3 := Lib.hid (HB2.out.trans (hb.mono HB2.out.size))
          clear hb
          go_wp2
          go_ret
          exact ⟨by rw [HR.out]; rfl, HB3.out⟩
        | true =>
          have HR := Lib.hid (vaF_0 (h := l) HL.out hs hd ho)
          rw [ho] at H3
          go_enter Try.func16, Try.ntmps16
          go_wp2_with fail
          refine (H1.out _ HV.out).mono ?_
          rintro e w1 ⟨rfl, hb⟩
          have HB1 := Lib.hid hb
          clear hb
          go_wp2_with fail
          refine (H2.out _ (HV.out.up HB1.out)).mono ?_
          rintro e w2 ⟨rfl, hb⟩
          have HB2 := Lib.hid (HB1.out.trans (hb.mono HB1.out.size))
          clear hb
          go_wp2_with fail
          refine (H3.out _ (HV.out.up HB2.out)).mono ?_
          rintro e w3 ⟨rfl, hb⟩
          have HB3 := Lib.hid (HB2.out.trans (hb.mono HB2.out.size))
          clear hb
          go_wp2
          go_ret
          exact ⟨by rw [HR.out]; rfl, HB3.out⟩

theorem info_due : (Try.prog.info? 24).map (fun i => (i.zero, i.size, i.bytes)) = some (some (.agg #[.int .i64 0, .int .i64 0]), 2, 16) := by kernel_rfl
/-- A copy, that the call owns. -/
def DClP (w : World) (l : List Du) (e : Ending) (w' : World) : Prop := ∃ v, e = .returned v ∧ w'.ownsRow w.heap.size 24 2 v l.length (dcs l) ∧ Below w.heap.size w w'
theorem dclone_end {w w1 : World} {l : List Du} {v1 : Value} {o : Obj} (hown : w1.ownsRow w.heap.size 24 2 v1 (0 + l.length) ([] ++ dcs l)) (hg : (w.alloc o).grownBy w1 (Value.ownBlock (.slice (some ⟨w.heap.size, 0, none⟩) 0 0))) : DClP w l (.returned v1) w1 := by
  rw [Nat.zero_add, List.nil_append] at hown
  exact ⟨v1, rfl, hown, (((Below.refl _ _).alloc (Nat.le_refl _) o)).grown hg (by simp) (fun k hk => by simp [Value.ownBlock] at hk; omega)⟩

set_option maxHeartbeats 2000000 in
theorem dclone_any (A : Option Addr) (n c : Nat) (l : List Du) (w : World) (hv : Dl w w.heap.size (.slice A n c) l) (h2 : n ≤ 1000) :
    Calls Try.prog 29 #[.slice A n c] w (DClP w l) := by
  obtain ⟨rfl, hm1, hm2⟩ := hv.len
  obtain ⟨i0, hi0, hz0⟩ := Option.map_eq_some_iff.1 info_due
  simp only [Prod.mk.injEq] at hz0
  have HI := Lib.hid hi0
  have HZ := Lib.hid hz0
  have HV := Lib.hid hv
  have heq : ∀ W, (binOp .eql 22 (.slice A l.length c) (.slice none 0 0)).run Try.prog W = .ok (.bool A.isNone) W := fun W => Lib.run_eql_slice_nil W _ _ _ _ _ _ _ Try.underlying22
  have HRD := Lib.hid hv.rd
  clear hv hi0 hz0
  cases A with
  | none =>
    have hl : l = [] := by
      cases l with
      | nil => rfl
      | cons d l => obtain ⟨b, o, e, _⟩ := HRD.out.2 (by simp); cases e
    subst hl
    have HP := Lib.hid (show DClP w [] (.returned (.slice none 0 0)) w from ⟨_, rfl, World.ownsRow_nil w _ _ _, Below.refl _ _⟩)
    simp only [List.length_nil, Option.isNone_none] at heq ⊢
    go_enter Try.func29, Try.ntmps29
    go_wp2
    go_ret
    exact HP.out
  | some a =>
    simp only [Option.isNone_some] at heq
    go_enter Try.func29, Try.ntmps29
    go_wp2_with (at_builtin; refine wpList_append_rd _ rfl (.tmp 5) (.tmp 6) 22 rfl w.heap.size 24 i0 _ 2 16 Try.underlying22 HI.out HZ.out.1 HZ.out.2.1 HZ.out.2.2 rfl (by omega) (.slice (some ⟨w.heap.size, 0, none⟩) 0 0) 0 [] rfl (World.ownsRow_made w #[] 0 (Nat.le_refl _) (Nat.zero_le _) rfl) w.heap.size (some a) l.length c (dcs l) rfl (HV.out.alloc (Nat.le_refl _) _).rd (dcs_one l) (by unfold maxLen; omega) (by omega) (by simp) ?_; intro v1 w1 hown1 hg1 hat1)
    have HP := Lib.hid (dclone_end hown1 hg1)
    clear hown1 hg1 hat1
    go_wp2
    go_ret
    exact HP.out
end Go.Proofs.Ytobimcpkhgfliaa
namespace Go.Proofs.Ytobimcpkhgfliaa
open Go.RowKit Go.Shelf
set_option linter.unusedVariables false
attribute [local go_sem] Oper.semAt_some

set_option maxRecDepth 100000 in
set_option maxHeartbeats 4000000 in
theorem values1_in (F : Fence) (n : Nat) (h7 : F.fn 53) (hro : F.round = none) (hn : 1 ≤ n) (l Bs n₀ : Nat) (A : Option Addr) (c : Nat) (zs : List Du) (hl1 : zs.length ≤ 1000) (J Jx : List Du → World → Prop)
    (hJ : ∀ s W o, J s W → J s (W.alloc o))
    (hY : ∀ pre x W, J pre W → pre.length < zs.length → YieldAt F (n - 1) Try.prog l #[Du.v x] W fun e W' =>
      (e = .returned (.bool true) ∧ J (pre ++ [x]) W' ∧ Below n₀ W W') ∨ (e = .returned (.bool false) ∧ Jx (pre ++ [x]) W'))
    (W : World) (hn₀ : n₀ ≤ W.heap.size) (hBs : W.cell? ⟨Bs, 0, none⟩ = some (.slice A zs.length c)) (hc : Dl W n₀ (.slice A zs.length c) zs) (h0 : J [] W) :
    CallsIn F n Try.prog 53 #[.func (.yield l) #[] #[], .pointer (some ⟨Bs, 0, none⟩)] W fun e W' => (∃ v, e = .returned v) ∧
      ((∃ ys, ys = zs ∧ J ys W') ∨ (∃ pre, pre <+: zs ∧ Jx pre W')) := by
  have HC := Lib.hid hc
  have HJ := Lib.hid hJ
  have H0 := Lib.hid h0
  have hl2 : (zs.length : Int) ≤ 1000 := by omega
  clear hc hJ h0
  refine callsIn_of_wp Try.func53 rfl h7 ?_ hro
  simp only [Try.ntmps53, List.size_toArray, List.length_cons, List.length_nil, Nat.reduceAdd, Nat.reduceSub, Array.replicate_succ, Array.replicate_zero, List.push_toArray, List.append_toArray, List.nil_append, List.cons_append]
  gi_wp2
  gi_loopw [7] (fun i wr => ∃ k : Nat, k ≤ zs.length ∧ i = .int .i64 k ∧ J (zs.take k) wr ∧ Below n₀ W wr)
    (fun i _ => zs.length - (intOf i).toNat)
  case atStart => exact ⟨0, Nat.zero_le _, rfl, H0.out, Below.refl _ _⟩
  case round =>
    obtain ⟨k, hk, rfl, hJs, hnx⟩ := hrel
    have HN := Lib.hid hnx
    have HJS := Lib.hid hJs
    clear hnx hJs
    by_cases hlt : k < zs.length
    · obtain ⟨b, o, rfl, hb, c0, c1⟩ := (HC.out.below HN.out).atg hlt
      have htk : zs.take (k + 1) = zs.take k ++ [ge zs k] := by rw [← ge_get hlt]; exact (List.take_append_getElem hlt).symm
      have HTK := Lib.hid htk
      obtain ⟨X, hX⟩ : ∃ X, ge zs k = X := ⟨_, rfl⟩
      rw [hX] at c0 c1 HTK
      clear htk hX
      obtain ⟨fn, tmps, assign, body, hy, hR⟩ := hY _ X (wr.alloc (.cells #[.int .i64 X.dl, .int .i64 X.id] 24)) (HJ.out _ _ _ HJS.out) (by rw [List.length_take]; omega)
      gi_wp2
      refine hR.mono ?_
      rintro e W3 (⟨rfl, hJ3, hk3⟩ | ⟨rfl, hJx3⟩)
      · have HB3 := Lib.hid (HN.out.trans (((Below.refl n₀ wr).alloc (by have := HN.out.size; omega) _).trans hk3))
        have HJ3 := Lib.hid hJ3
        clear hJ3 hk3
        gi_wp2
        go_roundw
        case rel => exact ⟨k + 1, by omega, by simp, by rw [HTK.out]; exact HJ3.out, HB3.out⟩
        case measure => simp [intOf]; omega
      · gi_wp2
        refine bodyPost_ret (results_none rfl _ _ _) rfl ?_
        exact ⟨⟨_, rfl⟩, .inr ⟨_, by rw [← HTK.out]; exact List.take_prefix _ _, hJx3⟩⟩
    · obtain rfl : k = zs.length := by omega
      have hJz := HJS.out
      rw [List.take_length] at hJz
      gi_wp2
      go_end0
      exact ⟨⟨_, rfl⟩, .inl ⟨_, rfl, hJz⟩⟩

theorem values_stops (F : Fence) (n : Nat) (h7 : F.fn 53) (hro : F.round = none) (hn : 1 ≤ n) (Bs n₀ : Nat) (A : Option Addr) (c : Nat) (zs : List Du) (hl1 : zs.length ≤ 1000) (w : World) (hBs : Bs < w.heap.size) (hn₀ : n₀ ≤ w.heap.size)
    (hc : w.cell? ⟨Bs, 0, none⟩ = some (.slice A zs.length c)) (hI : Dl w n₀ (.slice A zs.length c) zs) :
    SeqStopsK F n Try.prog 53 #[.pointer (some ⟨Bs, 0, none⟩)] (fun x : Du => #[x.v]) (Below n₀) (fun ys => ys = zs) (fun pre => pre <+: zs) zs.length w := fun l J Jx W hW hJ _ hY h0 =>
  values1_in F n h7 hro hn l Bs n₀ A c zs hl1 J Jx (fun s W' o hs => hJ s W' _ none hs (World.grownBy_alloc W' o none) (fun r e => by cases e)) hY W (Nat.le_trans hn₀ hW.size) ((hW.cell (p := ⟨Bs, 0, none⟩) hBs).trans hc) (hI.below (hW.mono hn₀)) h0

/-- Block B is the box of an element. -/
def Bx2 (W : World) (B : Nat) (d : Du) : Prop := W.heap[B]? = some (.cells #[.int .i64 d.dl, .int .i64 d.id] 24 (0, 0))
theorem Bx2.new (W : World) (d : Du) : Bx2 (W.alloc (.cells #[.int .i64 d.dl, .int .i64 d.id] 24)) W.heap.size d := World.alloc_heap_new W _
theorem Bx2.cells {W : World} {B : Nat} {d : Du} (h : Bx2 W B d) : W.cell? ⟨B, 0, none⟩ = some (.int .i64 d.dl) ∧ W.cell? ⟨B, 1, none⟩ = some (.int .i64 d.id) := by
  constructor <;> simp [World.cell?, show W.heap[B]? = _ from h]

/-- What a collecting loop holds between two rounds. -/
def ApI (w : World) (pre : List Du) (W : World) : Prop := (∃ v, Boxed W w.heap.size 22 v ∧ W.ownsRow w.heap.size 24 2 v pre.length (dcs pre) ∧ True) ∧ Below w.heap.size w W

set_option maxRecDepth 100000 in
set_option maxHeartbeats 4000000 in
theorem dappseq_in (F : Fence) (n : Nat) (h58 : F.fn 58) (hro : F.round = none) (hn : 3 ≤ n) (g : Nat) (lb : Array Value) (hFg : F.fn g) (eg : ∀ args w, (callFunc g args).run Try.prog w = .ok (.enter g args) w)
    (S Sp : List Du → Prop) (N : Nat) (hN : N ≤ 1000) (w : World) (hseq : SeqStopsK F (n - 1) Try.prog g lb (fun x : Du => #[x.v]) (Below w.heap.size) S Sp N w) :
    CallsIn F n Try.prog 58 #[.slice none 0 0, .func (.func g) #[] lb] w fun e w' => ∃ (v : Value) (xs : List Du), e = .returned v ∧ S xs ∧ w'.ownsRow w.heap.size 24 2 v xs.length (dcs xs) ∧ Below w.heap.size w w' := by
  have h1 : 1 ≤ n := by omega
  obtain ⟨i0, hi, hz0⟩ := Option.map_eq_some_iff.1 info_due
  simp only [Prod.mk.injEq] at hz0
  refine callsIn_of_wp_marks Try.func58 rfl h58 ?_ hro
  simp only [Try.ntmps58, List.size_toArray, List.length_cons, List.length_nil, Nat.reduceAdd, Nat.reduceSub, Array.replicate_succ, Array.replicate_zero, List.push_toArray, List.append_toArray, List.nil_append, List.cons_append]
  gi_wp2
  have bO := Boxed.new w 22 (.slice none 0 0)
  have hB0 : Below w.heap.size w (w.alloc (.cells #[.slice none 0 0] 22)) := (Below.refl _ w).alloc (Nat.le_refl _) _
  refine wpIn_rangeFunc_ownH hro h1 (gf := g) (lb := lb) rfl hFg eg hseq belowK_t (belowK_b (by simp)) hB0 (fun _ => rfl)
    (fun pre W => (∃ v, Boxed W w.heap.size 22 v ∧ W.ownsRow w.heap.size 24 2 v pre.length (dcs pre) ∧ True) ∧ Below w.heap.size w W)
    (fun _ _ _ => False)
    (OwnFrom.and (Own.from (holdsRow_own w.heap.size w.heap.size 22 24 2 (fun pre => pre.length) (fun pre => dcs pre) (fun _ _ => True)) _) (ownFrom_below (Nat.le_refl _) (by simp)))
    (fun _ _ _ _ _ hs _ _ => hs)
    ⟨⟨_, bO, World.ownsRow_nil _ _ _ _, trivial⟩, hB0⟩
    (fun x a' W => ∃ B5, w.heap.size < B5 ∧ Bx2 W B5 x ∧ a' = { tmps := #[.slice none 0 0, .func (.func g) #[] lb, .pointer (some ⟨w.heap.size, 0, none⟩), undef, .slice none 0 0, .pointer (some ⟨B5, 0, none⟩), .func (.func g) #[] lb, x.v, undef, undef, undef, undef, undef], defers := [] })
    (fun x a' _ X Y row hs hg hr => by
      obtain ⟨B5, h1, h2, h3⟩ := hs
      exact ⟨B5, h1, (hg.block B5 (Array.getElem?_eq_some_iff.1 h2).1 (fun e => by obtain ⟨_, o, ho, hc⟩ := hr B5 e.symm; rw [show X.heap[B5]? = _ from h2] at ho; cases ho; cases hc)).trans h2, h3⟩)
    ?assign ?body ?done ?stop
  case assign =>
    rintro l pre x W K ⟨⟨v, hv, hrow, _⟩, hB⟩ hK
    gi_wp2
    exact hK _ _ ((KeepsOthers.alloc _ _).from _) ((Below.refl _ W).alloc hB.size _) ⟨⟨v, hv.alloc _, hrow.alloc _, trivial⟩, hB.alloc hB.size _⟩ ⟨W.heap.size, hv.lt, Bx2.new W x, rfl⟩
  case body =>
    rintro l pre x a' W hl ⟨r, hr⟩ ⟨⟨v, hv, hrow, _⟩, hB⟩ ⟨B5, hB5, hbx, rfl⟩ hlt
    have hc := hv.cell
    obtain ⟨x0, x1⟩ := hbx.cells
    have hsz := hB.size
    have hdc : dcs (pre ++ [x]) = dcs pre ++ x.l := by rw [dcs_app, show dcs [x] = x.l by simp [dcs]]
    have hnw : ∀ j u, x.l[j]? = some u → (W.alloc (.cells #[.int .i64 x.dl, .int .i64 x.id] 24)).cell? ((⟨W.heap.size, 0, none⟩ : Addr).add j) = some u := fun j u hu => by
      rw [add_mk, Nat.zero_add, World.cell?_alloc_new, ← hu]; simp [Du.l]
    have hx1 : ∀ u ∈ x.l, u.oneCell' = true := fun u hu => by
      simp only [Du.l, List.mem_cons, List.not_mem_nil, or_false] at hu
      rcases hu with rfl | rfl <;> rfl
    gi_wp2_with (gi_at_builtin; refine wpListIn_append_own _ rfl _ _ 22 rfl w.heap.size 24 i0 _ 2 16 Try.underlying22 hi hz0.1 hz0.2.1 hz0.2.2 rfl (by decide) _ _ _ rfl (hrow.alloc _) ⟨W.heap.size, 0, none⟩ 1 1 x.l rfl rfl hnw hx1 (by unfold maxLen; omega) (by omega) (by simp; omega) ?_; intro v' w1 hown' hgrow _; obtain ⟨g', cap', rfl⟩ := ownsRow_succ hown'; obtain ⟨hv1, hv2, hr2, hk2, hb2⟩ := hv.appended (by decide) hrow hsz (Nat.le_refl _) hown' hgrow; have hc1 := hv1.cell; have hf1 := hv1.frozen)
    exact ⟨hk2.from _, hb2, ⟨_, hv2, by rw [List.length_append, hdc]; exact hr2, trivial⟩, hB.trans hb2⟩
  case done =>
    rintro D ys W hD hS ⟨⟨v, hv, hrow, _⟩, hB⟩ hK
    have hc := hv.cell
    gi_wp2
    refine ⟨by simp, .inl ⟨_, _, rfl, run_takeDeferred hK, ?_⟩⟩
    exact ⟨_, results_tmp rfl _ _ _, v, ys, rfl, hS, ownsRow_putObj hrow _ hK rfl, hB.trans (belowK_b (w := w) (Nat.le_refl _) W D _ _ (by simp at hD; omega) hK rfl rfl)⟩
  case stop =>
    rintro D c pre W _ _ h _
    exact h.elim

/-- A list of elements that the call owns. -/
theorem dcollect_any (Bs : Nat) (A : Option Addr) (c : Nat) (zs : List Du) (hl1 : zs.length ≤ 1000) (w : World) (hBs : Bs < w.heap.size) (hc : w.cell? ⟨Bs, 0, none⟩ = some (.slice A zs.length c)) (hI : Dl w w.heap.size (.slice A zs.length c) zs) :
    Calls Try.prog 51 #[.func (.func 53) #[] #[.pointer (some ⟨Bs, 0, none⟩)]] w (DClP w zs) := by
  have HA := Lib.hid (callsIn_wide.1 (dappseq_in Fence.wide 5 trivial rfl (by omega) 53 #[.pointer (some ⟨Bs, 0, none⟩)] trivial (enters_of Try.func53 (by kernel_rfl) rfl) (fun ys => ys = zs) (fun pre => pre <+: zs) zs.length hl1 w
    (values_stops Fence.wide 4 trivial rfl (by omega) Bs w.heap.size A c zs hl1 w hBs (Nat.le_refl _) hc hI)))
  clear hBs hc hI
  go_enter Try.func51, Try.ntmps51
  go_wp2_with fail
  refine HA.out.mono ?_
  rintro e w1 ⟨v, xs, rfl, rfl, ho, hb⟩
  have HP := Lib.hid (show DClP w xs (.returned v) w1 from ⟨v, rfl, ho, hb⟩)
  clear ho hb
  go_wp2
  go_ret
  exact HP.out
end Go.Proofs.Ytobimcpkhgfliaa
namespace Go.Proofs.Ytobimcpkhgfliaa
open Go.RowKit
set_option linter.unusedVariables false

/-- An address lies from a block on. -/
def Nw (lo : Nat) (A : Option Addr) : Prop := ∀ a, A = some a → lo ≤ a.block
theorem nw_none {lo : Nat} : Nw lo none := fun a h => by cases h
theorem nw_some {lo b o : Nat} (h : lo ≤ b) : Nw lo (some ⟨b, o, none⟩) := fun a e => by injection e with e; subst e; exact h
theorem nw_low {lo lo' : Nat} {A : Option Addr} (h : Nw lo A) (hl : lo' ≤ lo) : Nw lo' A := fun a e => Nat.le_trans hl (h a e)
/-- A slice lies from a block on. -/
def NwV (lo : Nat) (v : Value) : Prop := ∀ A n c, v = .slice A n c → Nw lo A
theorem nwv_mk {lo n c : Nat} {A : Option Addr} (h : Nw lo A) : NwV lo (.slice A n c) := fun A' n' c' e => by injection e with e1 _ _; subst e1; exact h
theorem nwv_of {lo n c : Nat} {A : Option Addr} (h : NwV lo (.slice A n c)) : Nw lo A := h _ _ _ rfl
theorem nwv_low {lo lo' : Nat} {v : Value} (h : NwV lo v) (hl : lo' ≤ lo) : NwV lo' v := fun A n c e => nw_low (h A n c e) hl
theorem nwv_own {W : World} {base lo n size : Nat} {e : TypeId} {v : Value} {xs : List Value} (h : W.ownsRow base e size v n xs) (hl : lo ≤ base) : NwV lo v := by
  rcases h.2 with ⟨hv, _⟩ | ⟨g, cap, cur, hv, hg, _⟩
  · subst hv; exact nwv_mk nw_none
  · subst hv; exact nwv_mk (nw_some (by omega))
end Go.Proofs.Ytobimcpkhgfliaa
