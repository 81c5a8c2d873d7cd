/- What is proved here: slices.Clone of messages: a row of the call's own that reads the same; ring.PushBack by a contract; ring.PushFront by a contract. -/
import Derived.Test.YtnldgfhkdllinaaGreatJ08
import Derived.WalkSpells
import Derived.Test.YtnldgfhkdllinaaGreatJ09
import Derived.Deep.RegionHeld3
import Derived.Deep.DrawnRows
namespace Go.Proofs.YtnldgfhkdllinaaGreat
open Go.RowKit
set_option linter.unusedVariables false

/-- A copy of messages, in a block of the call's own. -/
def ClP (w : World) (l : List Msg) (e : Ending) (w' : World) : Prop := ∃ q cap, e = .returned (.slice (some ⟨q, 0, none⟩) l.length cap) ∧ l.length ≤ cap ∧ cap ≤ maxLen ∧ w.heap.size ≤ q ∧ MRow w' q l.length (fun i => l.getD i zM) ∧ Below w.heap.size w w'

theorem MRow.of_own {W : World} {base q n cap : Nat} {e : TypeId} {l : List Msg} (h : W.ownsRow base e 7 (.slice (some ⟨q, 0, none⟩) n cap) n (lcs l)) : MRow W q n (fun i => l.getD i zM) := by
  refine ⟨?_, fun k hk j hj => ?_, fun j => World.ownsRow.frozenAt h j⟩
  · rcases h.2 with ⟨hv, _⟩ | ⟨g', cap', cur, hv, _, hh, _⟩
    · cases hv
    · cases hv; exact (Array.getElem?_eq_some_iff.1 hh).1
  · have hl : k < l.length := by have := h.1; rw [lcs_len] at this; omega
    have hj7 : j < (l[k]).l.length := hj
    have := h.cells (g := q) rfl (k * 7 + j) ((l[k]).l[j]) (by rw [lcs_at l k j hl hj]; exact List.getElem?_eq_getElem hj7)
    rw [add_mk, Nat.zero_add] at this
    rw [this]
    simp [List.getD, hl]

theorem clone_end {w w1 : World} {l : List Msg} {v1 : Value} {o : Obj} {e : TypeId} (hown : w1.ownsRow w.heap.size e 7 v1 (0 + l.length) ([] ++ lcs l)) (hg : (w.alloc o).grownBy w1 (Value.ownBlock (.slice (some ⟨w.heap.size, 0, none⟩) 0 0))) (h1 : 1 ≤ l.length) : ClP w l (.returned v1) w1 := by
  rw [Nat.zero_add, List.nil_append] at hown
  obtain ⟨A, cap, rfl⟩ := own_form hown
  have hb : Below w.heap.size w w1 := (((Below.refl _ _).alloc (Nat.le_refl _) o)).grown hg (by simp) (fun k hk => by simp [Value.ownBlock] at hk; omega)
  rcases hown.2 with ⟨hv, h0⟩ | ⟨g, cap', cur, hv, hgb, _, hl, hm, _⟩
  · omega
  · injection hv with e1 e2 e3
    subst e1; subst e3
    exact ⟨g, cap, rfl, hl, hm, hgb, MRow.of_own hown, hb⟩

set_option maxHeartbeats 2000000 in
theorem clone_any (A : Option Addr) (n c : Nat) (l : List Msg) (w : World) (hv : Ls w w.heap.size (.slice A n c) l) (h1 : 1 ≤ n) (h2 : n ≤ 1000) :
    Calls Tryz.prog 128 #[.slice A n c] w (ClP w l) := by
  obtain ⟨rfl, hm1, hm2⟩ := hv.len
  obtain ⟨i0, hi0, hz0⟩ := Option.map_eq_some_iff.1 info_msg
  simp only [Prod.mk.injEq] at hz0
  obtain ⟨b, o, rfl, hb, hc⟩ := hv.rd.2 (by omega)
  have HI := Lib.hid hi0
  have HZ := Lib.hid hz0
  have HV := Lib.hid hv
  have heq : ∀ W, (binOp .eql 25 (.slice (some ⟨b, o, none⟩) l.length c) (.slice none 0 0)).run Tryz.prog W = .ok (.bool false) W := fun W => Lib.run_eql_slice_nil W _ _ _ _ _ _ _ Tryz.underlying25
  clear hv hi0 hz0 hb hc
  go_enter Tryz.func128, Tryz.ntmps128
  go_wp2_with (at_builtin; refine wpList_append_rd _ rfl (.tmp 5) (.tmp 6) 25 rfl w.heap.size 44 i0 _ 7 64 Tryz.underlying25 HI.out HZ.out.1 HZ.out.2.1 HZ.out.2.2 rfl (by omega) (.slice (some ⟨w.heap.size, 0, none⟩) 0 0) 0 [] rfl (World.ownsRow_made w #[] 0 (Nat.le_refl _) (Nat.zero_le _) rfl) w.heap.size (some ⟨b, o, none⟩) l.length c (lcs l) rfl (HV.out.alloc (Nat.le_refl _) _).rd (lcs_one l) (by unfold maxLen; omega) (by omega) (by simp) ?_; intro v1 w1 hown1 hg1 hat1)
  have HP := Lib.hid (clone_end hown1 hg1 h1)
  clear hown1 hg1 hat1
  go_wp2
  go_ret
  exact HP.out
end Go.Proofs.YtnldgfhkdllinaaGreat
namespace Go.Proofs.YtnldgfhkdllinaaGreat
open Go.RowKit
set_option linter.unusedVariables false

/-- A ring, a message and a result in blocks of the call's own. -/
structure PbAt (w : World) (p q r : Nat) (A : Option Addr) (n c : Nat) (hd sz : Int) (M : Msg) (W : World) : Prop where
  rb : RB W p A n c hd sz
  ms : MAt W q M.nth M.bd
  rs : RB W r none 0 0 0 0
  bel : Below w.heap.size w W
  old : w.heap.size ≤ p ∧ p < q ∧ q < r
section
variable {w W W' : World} {p q r n c : Nat} {A : Option Addr} {hd sz : Int} {M : Msg}
theorem PbAt.below (h : PbAt w p q r A n c hd sz M W) (hb : Below W.heap.size W W') : PbAt w p q r A n c hd sz M W' :=
  ⟨h.rb.below hb h.rb.lt, h.ms.below hb h.ms.1, h.rs.below hb h.rs.lt, h.bel.trans (hb.mono h.bel.size), h.old⟩
theorem PbAt.drew (h : PbAt w p q r A n c hd sz M W) : PbAt w p q r A n c hd sz M W.drew := ⟨h.rb.drew, h.ms, h.rs.drew, h.bel.drew, h.old⟩
theorem PbAt.setA (h : PbAt w p q r A n c hd sz M W) (A' : Option Addr) (n' c' : Nat) : PbAt w p q r A' n' c' hd sz M (W.setCell ⟨p, 0, none⟩ (.slice A' n' c')) :=
  ⟨h.rb.setA A' n' c', h.ms.other (p := ⟨p, 0, none⟩) (show p ≠ q by have := h.old; omega) _, h.rs.other (a := ⟨p, 0, none⟩) (show p ≠ r by have := h.old; omega) _, h.bel.setCell (p := ⟨p, 0, none⟩) h.old.1 _, h.old⟩
theorem PbAt.setH (h : PbAt w p q r A n c hd sz M W) (x : Int) : PbAt w p q r A n c x sz M (W.setCell ⟨p, 1, none⟩ (.int .i64 x)) :=
  ⟨h.rb.setH x, h.ms.other (p := ⟨p, 1, none⟩) (show p ≠ q by have := h.old; omega) _, h.rs.other (a := ⟨p, 1, none⟩) (show p ≠ r by have := h.old; omega) _, h.bel.setCell (p := ⟨p, 1, none⟩) h.old.1 _, h.old⟩
theorem PbAt.setS (h : PbAt w p q r A n c hd sz M W) (x : Int) : PbAt w p q r A n c hd x M (W.setCell ⟨p, 2, none⟩ (.int .i64 x)) :=
  ⟨h.rb.setS x, h.ms.other (p := ⟨p, 2, none⟩) (show p ≠ q by have := h.old; omega) _, h.rs.other (a := ⟨p, 2, none⟩) (show p ≠ r by have := h.old; omega) _, h.bel.setCell (p := ⟨p, 2, none⟩) h.old.1 _, h.old⟩
theorem PbAt.sets (h : PbAt w p q r A n c hd sz M W) {b : Nat} (hb : r < b) (m : Nat) (vs : List Value) : PbAt w p q r A n c hd sz M (W.setCells b m vs) :=
  ⟨h.rb.sets (by have := h.old; omega) m vs, h.ms.sets (by have := h.old; omega) m vs, h.rs.sets (by omega) m vs, sets_below (by have := h.old; omega) vs m W h.bel, h.old⟩
theorem PbAt.sets7 (h : PbAt w p q r A n c hd sz M W) {b : Nat} (hb : r < b) (m : Nat) (X : Msg) : PbAt w p q r A n c hd sz M (((((((W.setCell ⟨b, m, none⟩ (.int .i64 X.id)).setCell ⟨b, m + 1, none⟩ (.int .i64 X.rt)).setCell ⟨b, m + 2, none⟩ (.int .i64 X.ep)).setCell ⟨b, m + 3, none⟩ (.int .i64 X.ct)).setCell ⟨b, m + 4, none⟩ (.int .i64 X.gn)).setCell ⟨b, m + 5, none⟩ (.int .i64 X.st)).setCell ⟨b, m + 6, none⟩ (.string X.bd)) := h.sets hb m X.l
theorem PbAt.facts (h : PbAt w p q r A n c hd sz M W) : (W.cell? ⟨p, 0, none⟩ = some (.slice A n c) ∧ W.cell? ⟨p, 1, none⟩ = some (.int .i64 hd) ∧ W.cell? ⟨p, 2, none⟩ = some (.int .i64 sz) ∧ W.frozen? ⟨p, 0, none⟩ = false ∧ W.frozen? ⟨p, 1, none⟩ = false ∧ W.frozen? ⟨p, 2, none⟩ = false ∧ p < W.heap.size) ∧ (W.cell? ⟨q, 0, none⟩ = some (.int .i64 M.id) ∧ W.cell? ⟨q, 1, none⟩ = some (.int .i64 M.rt) ∧ W.cell? ⟨q, 2, none⟩ = some (.int .i64 M.ep) ∧ W.cell? ⟨q, 3, none⟩ = some (.int .i64 M.ct) ∧ W.cell? ⟨q, 4, none⟩ = some (.int .i64 M.gn) ∧ W.cell? ⟨q, 5, none⟩ = some (.int .i64 M.st) ∧ W.cell? ⟨q, 6, none⟩ = some (.string M.bd)) ∧ (W.cell? ⟨r, 0, none⟩ = some (.slice none 0 0) ∧ W.cell? ⟨r, 1, none⟩ = some (.int .i64 0) ∧ W.cell? ⟨r, 2, none⟩ = some (.int .i64 0) ∧ W.frozen? ⟨r, 0, none⟩ = false ∧ W.frozen? ⟨r, 1, none⟩ = false ∧ W.frozen? ⟨r, 2, none⟩ = false ∧ r < W.heap.size) :=
  ⟨h.rb.facts, h.ms.facts.1, h.rs.facts⟩
theorem PbAt.start (w : World) (A : Option Addr) (n c : Nat) (hd sz : Int) (M : Msg) (t u : TypeId) : PbAt w w.heap.size (w.heap.size + 1) (w.heap.size + 1 + 1) A n c hd sz M (((w.alloc (.cells #[.slice A n c, .int .i64 hd, .int .i64 sz] t)).alloc (.cells M.cs u)).alloc (.cells #[.slice none 0 0, .int .i64 0, .int .i64 0] t)) := by
  have h := MAt.fresh (f := M.nth) (w.alloc (.cells #[.slice A n c, .int .i64 hd, .int .i64 sz] t)) M.id M.rt M.ep M.ct M.gn M.st M.bd u rfl rfl rfl rfl rfl rfl
  have e : (w.alloc (.cells #[.slice A n c, .int .i64 hd, .int .i64 sz] t)).heap.size = w.heap.size + 1 := by simp
  have e2 : ((w.alloc (.cells #[.slice A n c, .int .i64 hd, .int .i64 sz] t)).alloc (.cells M.cs u)).heap.size = w.heap.size + 1 + 1 := by simp
  rw [e] at h
  have k := RB.fresh ((w.alloc (.cells #[.slice A n c, .int .i64 hd, .int .i64 sz] t)).alloc (.cells M.cs u)) none 0 0 0 0 t
  rw [e2] at k
  exact ⟨((RB.fresh w A n c hd sz t).alloc _).alloc _, h.alloc _, k, (((Below.refl _ _).alloc (Nat.le_refl _) _).alloc (by omega) _).alloc (by omega) _, Nat.le_refl _, Nat.lt_succ_self _, Nat.lt_succ_self _⟩
theorem PbAt.s10 (h : PbAt w p q r A n c hd sz M W) : (W.cell? ⟨p, 0, none⟩ = some (.slice A n c) ∧ W.cell? ⟨p, 1, none⟩ = some (.int .i64 hd) ∧ W.cell? ⟨p, 2, none⟩ = some (.int .i64 sz) ∧ W.cell? ⟨q, 0, none⟩ = some (.int .i64 M.id) ∧ W.cell? ⟨q, 1, none⟩ = some (.int .i64 M.rt) ∧ W.cell? ⟨q, 2, none⟩ = some (.int .i64 M.ep) ∧ W.cell? ⟨q, 3, none⟩ = some (.int .i64 M.ct) ∧ W.cell? ⟨q, 4, none⟩ = some (.int .i64 M.gn) ∧ W.cell? ⟨q, 5, none⟩ = some (.int .i64 M.st) ∧ W.cell? ⟨q, 6, none⟩ = some (.string M.bd)) :=
  ⟨h.rb.c0, h.rb.c1, h.rb.c2, h.ms.facts.1⟩
/-- The result block at the end. -/
theorem PbAt.result (h : PbAt w p q r A n c hd sz M W) (A' : Option Addr) (n' c' : Nat) (x y : Int) : Below w.heap.size w (((W.setCell ⟨r, 0, none⟩ (.slice A' n' c')).setCell ⟨r, 1, none⟩ (.int .i64 x)).setCell ⟨r, 2, none⟩ (.int .i64 y)) := by
  have hr : w.heap.size ≤ r := by have := h.old; omega
  exact ((h.bel.setCell (p := ⟨r, 0, none⟩) hr _).setCell (p := ⟨r, 1, none⟩) hr _).setCell (p := ⟨r, 2, none⟩) hr _
end
theorem Ls.set3 {W : World} {B r : Nat} {v : Value} {l : List Msg} (h : Ls W B v l) (hr : B ≤ r) (x y z : Value) : Ls (((W.setCell ⟨r, 0, none⟩ x).setCell ⟨r, 1, none⟩ y).setCell ⟨r, 2, none⟩ z) B v l :=
  ((h.setCell (p := ⟨r, 0, none⟩) hr x).setCell (p := ⟨r, 1, none⟩) hr y).setCell (p := ⟨r, 2, none⟩) hr z
theorem MRow.set3 {W : World} {q n r : Nat} {f : Nat → Msg} (h : MRow W q n f) (hr : r ≠ q) (x y z : Value) : MRow (((W.setCell ⟨r, 0, none⟩ x).setCell ⟨r, 1, none⟩ y).setCell ⟨r, 2, none⟩ z) q n f :=
  ((h.other (p := ⟨r, 0, none⟩) hr x).other (p := ⟨r, 1, none⟩) hr y).other (p := ⟨r, 2, none⟩) hr z

theorem MRow.put7n {W : World} {q n : Nat} {f : Nat → Msg} (h : MRow W q n f) {k : Nat} (hk : k < n) (M : Msg) : MRow (((((((W.setCell ⟨q, k * 7, none⟩ (.int .i64 M.id)).setCell ⟨q, k * 7 + 1, none⟩ (.int .i64 M.rt)).setCell ⟨q, k * 7 + 2, none⟩ (.int .i64 M.ep)).setCell ⟨q, k * 7 + 3, none⟩ (.int .i64 M.ct)).setCell ⟨q, k * 7 + 4, none⟩ (.int .i64 M.gn)).setCell ⟨q, k * 7 + 5, none⟩ (.int .i64 M.st)).setCell ⟨q, k * 7 + 6, none⟩ (.string M.bd)) q n (fun i => if i = k then M else f i) := h.put hk M

/-- What PushBack returns. -/
noncomputable def pbC (cs : List Msg) (hd sz : Int) (M : Msg) : List Msg := if puE cs hd sz M = 0 then fil cs.length hd.toNat (ord cs hd.toNat sz.toNat ++ [M]) else []
noncomputable def ifE (x a : Int) : Int := if x = 0 then a else 0

attribute [local go_sem ↓] Go.wp_at_zero Go.wp_at_succ
set_option maxHeartbeats 4000000 in
set_option maxRecDepth 20000 in
theorem pback_any (A : Option Addr) (n c : Nat) (cs : List Msg) (hd sz : Int) (M : Msg) (w : World) (hv : Ls w w.heap.size (.slice A n c) cs) :
    Calls Tryz.prog 71 #[.agg #[.slice A n c, .int .i64 hd, .int .i64 sz], M.v] w (RP w (pbC cs hd sz M) (ifE (puE cs hd sz M) hd) (ifE (puE cs hd sz M) (sz + 1)) (puE cs hd sz M)) := by
  obtain ⟨rfl, _, _⟩ := hv.len
  have HV := Lib.hid hv
  have HP := Lib.hid (fun w1 (h : Ls w1 w1.heap.size (.slice A cs.length c) cs) => pusherr_any A cs.length c cs hd sz M w1 h)
  clear hv
  by_cases h0 : puE cs hd sz M = 0
  · have HC := Lib.hid (show pbC cs hd sz M = fil cs.length hd.toNat (ord cs hd.toNat sz.toNat ++ [M]) from if_pos h0)
    rw [h0] at HP ⊢
    have HE1 := Lib.hid (show ifE 0 hd = hd from if_pos rfl)
    have HE2 := Lib.hid (show ifE 0 (sz + 1) = sz + 1 from if_pos rfl)
    obtain ⟨hg, _, hne, _⟩ := puE_zero h0
    obtain ⟨hn, hz, _, _⟩ := rgV_zero hg
    obtain ⟨⟨n1, n2⟩, ⟨k1, k2⟩, ⟨s1, s2⟩⟩ := nm_of hn
    obtain ⟨hd, rfl⟩ := Int.eq_ofNat_of_zero_le k1
    obtain ⟨sz, rfl⟩ := Int.eq_ofNat_of_zero_le s1
    simp only [Int.toNat_natCast] at HC hz
    have hpb := push_back_cells (cs := cs) (hd := hd) (sz := sz) (by omega) (by omega) hz M
    obtain ⟨m, hm⟩ : ∃ m, m = (hd + sz) % cs.length := ⟨_, rfl⟩
    have hml : m < cs.length := by rw [hm]; exact Nat.mod_lt _ (by omega)
    have hmi : ((hd : Int) + (sz : Int)) % (cs.length : Int) = (m : Int) := by rw [hm]; simp
    rw [← hm] at hpb
    have HPB := Lib.hid (hpb.trans HC.out.symm)
    have HPL := Lib.hid (fun A' c' w => place_any A' cs.length c' hd sz sz (by omega) (by omega) (by omega) (by omega) (by omega) (by omega) w)
    rw [hmi] at HPL
    have HCL := Lib.hid (fun w1 (h : Ls w1 w1.heap.size (.slice A cs.length c) cs) => clone_any A cs.length c cs w1 h (by omega) (by omega))
    have HCS := Lib.hid (fil_len cs.length hd (ord cs hd sz ++ [M]))
    rw [← HC.out] at HCS
    clear h0 hg hne hn hz hm hmi hpb HC
    generalize pbC cs hd sz M = ds at *
    have hs1 : (sz : Int) + 1 ≤ 100 := by omega
    have hml' : (m : Int) < (cs.length : Int) := by omega
    go_enter Tryz.func71, Tryz.ntmps71
    go_wp2_with fail
    have HS := Lib.hid (PbAt.start w A cs.length c hd sz M 27 44)
    obtain ⟨p, hp⟩ : ∃ p, p = w.heap.size := ⟨_, rfl⟩
    obtain ⟨q, hq⟩ : ∃ q, q = w.heap.size + 1 := ⟨_, rfl⟩
    obtain ⟨r, hr⟩ : ∃ r, r = w.heap.size + 1 + 1 := ⟨_, rfl⟩
    rw [← hr, ← hq, ← hp] at HS ⊢
    clear hp hq hr
    refine (HP.out _ (HV.out.up HS.out.bel)).mono ?_
    rintro e w1 ⟨rfl, hb⟩
    have HS1 := Lib.hid (HS.out.below hb)
    obtain ⟨⟨r0, r1, r2, r3, r4, r5, hpl⟩, _, _⟩ := HS1.out.facts
    clear hb HS
    go_wp2_with fail
    refine (HCL.out _ (HV.out.up HS1.out.bel)).mono ?_
    rintro e w2 ⟨z, cap, rfl, hcl, hcm, hzl, hrow, hb⟩
    have HZR := Lib.hid (Nat.lt_of_lt_of_le HS1.out.rs.lt hzl)
    have HS2 := Lib.hid (HS1.out.below hb)
    have HCP := Lib.hid (And.intro hcl hcm)
    have HRW := Lib.hid hrow
    clear hb r0 r1 r2 r3 r4 r5 hpl hcl hcm hzl hrow HS1
    obtain ⟨⟨r0, r1, r2, r3, r4, r5, hpl⟩, _, _⟩ := HS2.out.facts
    go_wp2_with fail
    have HS3 := Lib.hid (HS2.out.setA (some ⟨z, 0, none⟩) cs.length cap)
    have HRW3 := Lib.hid (HRW.out.other (p := ⟨p, 0, none⟩) (show p ≠ z by have := HS2.out.old; have := HZR.out; omega) (.slice (some ⟨z, 0, none⟩) cs.length cap))
    generalize w2.setCell ⟨p, 0, none⟩ (.slice (some ⟨z, 0, none⟩) cs.length cap) = w3 at *
    clear r0 r1 r2 r3 r4 r5 hpl HS2 HRW
    have HSA := Lib.hid HS3.out.drew.s10
    go_region_held3 (fun W => W.cell? ⟨p, 0, none⟩ = some (.slice (some ⟨z, 0, none⟩) cs.length cap) ∧ W.cell? ⟨p, 1, none⟩ = some (.int .i64 hd) ∧ W.cell? ⟨p, 2, none⟩ = some (.int .i64 sz) ∧ W.cell? ⟨q, 0, none⟩ = some (.int .i64 M.id) ∧ W.cell? ⟨q, 1, none⟩ = some (.int .i64 M.rt) ∧ W.cell? ⟨q, 2, none⟩ = some (.int .i64 M.ep) ∧ W.cell? ⟨q, 3, none⟩ = some (.int .i64 M.ct) ∧ W.cell? ⟨q, 4, none⟩ = some (.int .i64 M.gn) ∧ W.cell? ⟨q, 5, none⟩ = some (.int .i64 M.st) ∧ W.cell? ⟨q, 6, none⟩ = some (.string M.bd))
      (first | with_reducible exact HSA.out | with_reducible exact HSB.out | with_reducible exact HSC.out)
      (first
      | (go_at_call 129; refine (HPL.out _ _ _).mono ?_; rintro e w4 ⟨rfl, hb⟩; have HS4 := Lib.hid (HS3.out.drew.below hb); have HRW4 := Lib.hid (HRW3.out.drew.below hb HRW3.out.1); have HSB := Lib.hid HS4.out.s10; have HSC := Lib.hid ((HS4.out.sets7 HZR.out (m * 7) M).s10); obtain ⟨y0, y1, y2, y3, y4, y5, y6⟩ := HRW4.out.free (m * 7); obtain ⟨x0, x1, x2, x3, x4, x5, x6⟩ := HRW4.out.c7 hml; clear hb))
    have HS5 := Lib.hid (HS4.out.sets7 HZR.out (m * 7) M)
    have HRW5 := Lib.hid (HRW4.out.put7n hml M)
    clear y0 y1 y2 y3 y4 y5 y6 x0 x1 x2 x3 x4 x5 x6 HSA HSB HSC
    generalize (((((((w4.setCell ⟨z, m * 7, none⟩ (.int .i64 M.id)).setCell ⟨z, m * 7 + 1, none⟩ (.int .i64 M.rt)).setCell ⟨z, m * 7 + 2, none⟩ (.int .i64 M.ep)).setCell ⟨z, m * 7 + 3, none⟩ (.int .i64 M.ct)).setCell ⟨z, m * 7 + 4, none⟩ (.int .i64 M.gn)).setCell ⟨z, m * 7 + 5, none⟩ (.int .i64 M.st)).setCell ⟨z, m * 7 + 6, none⟩ (.string M.bd)) = w5 at *
    obtain ⟨⟨r0, r1, r2, r3, r4, r5, hpl⟩, _, ⟨t0, t1, t2, t3, t4, t5, hrl⟩⟩ := HS5.out.facts
    have hpr : p ≠ r := by have := HS5.out.old; omega
    have hrp : r ≠ p := fun e => hpr e.symm
    have HL := Lib.hid (((HRW5.out.other (p := ⟨p, 2, none⟩) (show p ≠ z by have := HS5.out.old; have := HZR.out; omega) (.int .i64 ((sz : Int) + 1))).set3 (r := r) (by have := HZR.out; omega) (.slice (some ⟨z, 0, none⟩) cs.length cap) (.int .i64 hd) (.int .i64 ((sz : Int) + 1))).ls' HPB.out HCP.out.1 HCP.out.2)
    have HB := Lib.hid ((HS5.out.setS ((sz : Int) + 1)).result (some ⟨z, 0, none⟩) cs.length cap hd ((sz : Int) + 1))
    go_wp2
    exact bodyPost_ret (v := .tuple #[.agg #[.slice (some ⟨z, 0, none⟩) cs.length cap, .int .i64 hd, .int .i64 ((sz : Int) + 1)], .int .i64 0]) (by simp only [results, Tryz.results71]; go_simp <;> rfl) rfl ⟨some ⟨z, 0, none⟩, cap, by rw [HCS.out, HE1.out, HE2.out], nw_some (by have := HS5.out.old; have := HZR.out; omega), by rw [HCS.out]; exact HL.out, HB.out⟩
  · have HC := Lib.hid (show pbC cs hd sz M = [] from if_neg h0)
    have HE1 := Lib.hid (show ifE (puE cs hd sz M) hd = 0 from if_neg h0)
    have HE2 := Lib.hid (show ifE (puE cs hd sz M) (sz + 1) = 0 from if_neg h0)
    have hne : (puE cs hd sz M != 0) = true := bne_iff_ne.2 h0
    generalize puE cs hd sz M = x at *
    generalize pbC cs hd sz M = ds at *
    clear h0
    go_enter Tryz.func71, Tryz.ntmps71
    go_wp2_with fail
    have HS := Lib.hid (PbAt.start w A cs.length c hd sz M 27 44)
    obtain ⟨p, hp⟩ : ∃ p, p = w.heap.size := ⟨_, rfl⟩
    obtain ⟨q, hq⟩ : ∃ q, q = w.heap.size + 1 := ⟨_, rfl⟩
    obtain ⟨r, hr⟩ : ∃ r, r = w.heap.size + 1 + 1 := ⟨_, rfl⟩
    rw [← hr, ← hq, ← hp] at HS ⊢
    clear hp hq hr
    refine (HP.out _ (HV.out.up HS.out.bel)).mono ?_
    rintro e w1 ⟨rfl, hb⟩
    have HS1 := Lib.hid (HS.out.below hb)
    obtain ⟨_, _, ⟨t0, t1, t2, t3, t4, t5, hrl⟩⟩ := HS1.out.facts
    have HB := Lib.hid (HS1.out.result none 0 0 0 0)
    clear hb HS
    go_wp2
    exact bodyPost_ret (v := .tuple #[.agg #[.slice none 0 0, .int .i64 0, .int .i64 0], .int .i64 x]) (by simp only [results, Tryz.results71]; go_simp <;> rfl) rfl ⟨none, 0, by rw [HC.out, HE1.out, HE2.out]; rfl, nw_none, by rw [HC.out]; exact Ls.nil, HB.out⟩
end Go.Proofs.YtnldgfhkdllinaaGreat
namespace Go.Proofs.YtnldgfhkdllinaaGreat
open Go.RowKit
set_option linter.unusedVariables false

/-- What PushFront returns. -/
noncomputable def pfC (cs : List Msg) (hd sz : Int) (M : Msg) : List Msg := if puE cs hd sz M = 0 then fil cs.length ((hd.toNat + (cs.length - 1)) % cs.length) (M :: ord cs hd.toNat sz.toNat) else []
noncomputable def pfH (cs : List Msg) (hd sz : Int) (M : Msg) : Int := if puE cs hd sz M = 0 then (((hd.toNat + (cs.length - 1)) % cs.length : Nat) : Int) else 0

set_option maxHeartbeats 4000000 in
set_option maxRecDepth 20000 in
theorem pfront_any (A : Option Addr) (n c : Nat) (cs : List Msg) (hd sz : Int) (M : Msg) (w : World) (hv : Ls w w.heap.size (.slice A n c) cs) :
    Calls Tryz.prog 72 #[.agg #[.slice A n c, .int .i64 hd, .int .i64 sz], M.v] w (RP w (pfC cs hd sz M) (pfH cs hd sz M) (ifE (puE cs hd sz M) (sz + 1)) (puE cs hd sz M)) := by
  obtain ⟨rfl, _, _⟩ := hv.len
  have HV := Lib.hid hv
  have HP := Lib.hid (fun w1 (h : Ls w1 w1.heap.size (.slice A cs.length c) cs) => pusherr_any A cs.length c cs hd sz M w1 h)
  clear hv
  by_cases h0 : puE cs hd sz M = 0
  · have HC := Lib.hid (show pfC cs hd sz M = fil cs.length ((hd.toNat + (cs.length - 1)) % cs.length) (M :: ord cs hd.toNat sz.toNat) from if_pos h0)
    have HE1' := Lib.hid (show pfH cs hd sz M = (((hd.toNat + (cs.length - 1)) % cs.length : Nat) : Int) from if_pos h0)
    rw [h0] at HP ⊢
    have HE2 := Lib.hid (show ifE 0 (sz + 1) = sz + 1 from if_pos rfl)
    obtain ⟨hg, _, hne, _⟩ := puE_zero h0
    obtain ⟨hn, hz, _, _⟩ := rgV_zero hg
    obtain ⟨⟨n1, n2⟩, ⟨k1, k2⟩, ⟨s1, s2⟩⟩ := nm_of hn
    obtain ⟨hd, rfl⟩ := Int.eq_ofNat_of_zero_le k1
    obtain ⟨sz, rfl⟩ := Int.eq_ofNat_of_zero_le s1
    simp only [Int.toNat_natCast] at HC hz HE1'
    have hpb := push_front_cells (cs := cs) (hd := hd) (sz := sz) (by omega) (by omega) hz M
    obtain ⟨m, hm⟩ : ∃ m, m = (hd + (cs.length - 1)) % cs.length := ⟨_, rfl⟩
    have hml : m < cs.length := by rw [hm]; exact Nat.mod_lt _ (by omega)
    have hmi : ((hd : Int) + ((cs.length : Int) - 1)) % (cs.length : Int) = (m : Int) := by rw [hm, show (cs.length : Int) - 1 = ((cs.length - 1 : Nat) : Int) by omega]; simp
    rw [← hm] at hpb HC HE1'
    have HE1 := HE1'
    clear HE1'
    have HPB := Lib.hid (hpb.trans HC.out.symm)
    have HPL := Lib.hid (fun A' c' w => place_any A' cs.length c' hd sz ((cs.length : Int) - 1) (by omega) (by omega) (by omega) (by omega) (by omega) (by omega) w)
    rw [hmi] at HPL
    have HCL := Lib.hid (fun w1 (h : Ls w1 w1.heap.size (.slice A cs.length c) cs) => clone_any A cs.length c cs w1 h (by omega) (by omega))
    have HCS := Lib.hid (fil_len cs.length m (M :: ord cs hd sz))
    rw [← HC.out] at HCS
    clear h0 hg hne hn hz hm hmi hpb HC
    generalize pfC cs hd sz M = ds at *
    generalize pfH cs hd sz M = hx at *
    have hs1 : (sz : Int) + 1 ≤ 100 := by omega
    have hml' : (m : Int) < (cs.length : Int) := by omega
    go_enter Tryz.func72, Tryz.ntmps72
    go_wp2_with fail
    have HS := Lib.hid (PbAt.start w A cs.length c hd sz M 27 44)
    obtain ⟨p, hp⟩ : ∃ p, p = w.heap.size := ⟨_, rfl⟩
    obtain ⟨q, hq⟩ : ∃ q, q = w.heap.size + 1 := ⟨_, rfl⟩
    obtain ⟨r, hr⟩ : ∃ r, r = w.heap.size + 1 + 1 := ⟨_, rfl⟩
    rw [← hr, ← hq, ← hp] at HS ⊢
    clear hp hq hr
    refine (HP.out _ (HV.out.up HS.out.bel)).mono ?_
    rintro e w1 ⟨rfl, hb⟩
    have HS1 := Lib.hid (HS.out.below hb)
    obtain ⟨⟨r0, r1, r2, r3, r4, r5, hpl⟩, _, _⟩ := HS1.out.facts
    clear hb HS
    go_wp2_with fail
    refine (HCL.out _ (HV.out.up HS1.out.bel)).mono ?_
    rintro e w2 ⟨z, cap, rfl, hcl, hcm, hzl, hrow, hb⟩
    have HZR := Lib.hid (Nat.lt_of_lt_of_le HS1.out.rs.lt hzl)
    have HS2 := Lib.hid (HS1.out.below hb)
    have HCP := Lib.hid (And.intro hcl hcm)
    have HRW := Lib.hid hrow
    clear hb r0 r1 r2 r3 r4 r5 hpl hcl hcm hzl hrow HS1
    obtain ⟨⟨r0, r1, r2, r3, r4, r5, hpl⟩, _, _⟩ := HS2.out.facts
    go_wp2_with fail
    have HS3 := Lib.hid (HS2.out.setA (some ⟨z, 0, none⟩) cs.length cap)
    have HRW3 := Lib.hid (HRW.out.other (p := ⟨p, 0, none⟩) (show p ≠ z by have := HS2.out.old; have := HZR.out; omega) (.slice (some ⟨z, 0, none⟩) cs.length cap))
    clear r0 r1 r2 r3 r4 r5 hpl HS2 HRW
    refine (HPL.out _ _ _).mono ?_
    rintro e w4 ⟨rfl, hb⟩
    have HS4 := Lib.hid ((HS3.out.below hb).setH (m : Int))
    have HRW4 := Lib.hid ((HRW3.out.below hb HRW3.out.1).other (p := ⟨p, 1, none⟩) (show p ≠ z by have := HS3.out.old; have := HZR.out; omega) (.int .i64 (m : Int)))
    obtain ⟨⟨r0, r1, r2, r3, r4, r5, hpl⟩, ⟨u0, u1, u2, u3, u4, u5, u6⟩, ⟨t0, t1, t2, t3, t4, t5, hrl⟩⟩ := (HS3.out.below hb).facts
    obtain ⟨y0, y1, y2, y3, y4, y5, y6⟩ := (HRW3.out.below hb HRW3.out.1).free (m * 7)
    obtain ⟨x0, x1, x2, x3, x4, x5, x6⟩ := (HRW3.out.below hb HRW3.out.1).c7 hml
    have hpr : p ≠ r := by have := HS4.out.old; omega
    have hqp : q ≠ p := by have := HS4.out.old; omega
    have hpq : p ≠ q := fun e => hqp e.symm
    have hzp : z ≠ p := by have := HS4.out.old; have := HZR.out; omega
    have hpz : p ≠ z := fun e => hzp e.symm
    have hzq : z ≠ q := by have := HS4.out.old; have := HZR.out; omega
    have hzr : z ≠ r := by have := HZR.out; omega
    clear hb
    have HS5 := Lib.hid ((HS4.out.sets7 HZR.out (m * 7) M).setS ((sz : Int) + 1))
    have HL := Lib.hid (((HRW4.out.put7n hml M).other (p := ⟨p, 2, none⟩) hpz (.int .i64 ((sz : Int) + 1))).set3 (r := r) (fun e => hzr e.symm) (.slice (some ⟨z, 0, none⟩) cs.length cap) (.int .i64 (m : Int)) (.int .i64 ((sz : Int) + 1)))
    have HL := Lib.hid (HL.out.ls' HPB.out HCP.out.1 HCP.out.2)
    have HB := Lib.hid (HS5.out.result (some ⟨z, 0, none⟩) cs.length cap (m : Int) ((sz : Int) + 1))
    go_wp2
    exact bodyPost_ret (v := .tuple #[.agg #[.slice (some ⟨z, 0, none⟩) cs.length cap, .int .i64 (m : Int), .int .i64 ((sz : Int) + 1)], .int .i64 0]) (by simp only [results, Tryz.results72]; go_simp <;> rfl) rfl ⟨some ⟨z, 0, none⟩, cap, by rw [HCS.out, HE1.out, HE2.out], nw_some (by have := HS5.out.old; have := HZR.out; omega), by rw [HCS.out]; exact HL.out, HB.out⟩
  · have HC := Lib.hid (show pfC cs hd sz M = [] from if_neg h0)
    have HE1 := Lib.hid (show pfH cs hd sz M = 0 from if_neg h0)
    have HE2 := Lib.hid (show ifE (puE cs hd sz M) (sz + 1) = 0 from if_neg h0)
    have hne : (puE cs hd sz M != 0) = true := bne_iff_ne.2 h0
    generalize puE cs hd sz M = x at *
    generalize pfC cs hd sz M = ds at *
    generalize pfH cs hd sz M = hx at *
    clear h0
    go_enter Tryz.func72, Tryz.ntmps72
    go_wp2_with fail
    have HS := Lib.hid (PbAt.start w A cs.length c hd sz M 27 44)
    obtain ⟨p, hp⟩ : ∃ p, p = w.heap.size := ⟨_, rfl⟩
    obtain ⟨q, hq⟩ : ∃ q, q = w.heap.size + 1 := ⟨_, rfl⟩
    obtain ⟨r, hr⟩ : ∃ r, r = w.heap.size + 1 + 1 := ⟨_, rfl⟩
    rw [← hr, ← hq, ← hp] at HS ⊢
    clear hp hq hr
    refine (HP.out _ (HV.out.up HS.out.bel)).mono ?_
    rintro e w1 ⟨rfl, hb⟩
    have HS1 := Lib.hid (HS.out.below hb)
    obtain ⟨_, _, ⟨t0, t1, t2, t3, t4, t5, hrl⟩⟩ := HS1.out.facts
    have HB := Lib.hid (HS1.out.result none 0 0 0 0)
    clear hb HS
    go_wp2
    exact bodyPost_ret (v := .tuple #[.agg #[.slice none 0 0, .int .i64 0, .int .i64 0], .int .i64 x]) (by simp only [results, Tryz.results72]; go_simp <;> rfl) rfl ⟨none, 0, by rw [HC.out, HE1.out, HE2.out]; rfl, nw_none, by rw [HC.out]; exact Ls.nil, HB.out⟩
end Go.Proofs.YtnldgfhkdllinaaGreat
