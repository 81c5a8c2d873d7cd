/- What is proved here: From of the statements' base makes a valid shard; shard.pull of what Take wants, by a contract; shardqueueref07.Ready, Leased, All by contracts; shardqueueref07.span and Validate by contracts; shard.Free, ref07.New by contracts. -/
import Derived.Test.YtijpflljopckiaaJ22
import Derived.Test.YtijpflljopckiaaJ23
import Derived.Test.YtijpflljopckiaaJ13
import Derived.Test.YtijpflljopckiaaJ24
import Derived.Test.YtijpflljopckiaaJ07
import Derived.Test.YtijpflljopckiaaJ05
import Derived.Test.YtijpflljopckiaaJ03
import Derived.Test.YtijpflljopckiaaRows
import Derived.Test.YtijpflljopckiaaJ02
import Derived.WalkKit
import Derived.Outline
import Derived.IntWalk
import Derived.Deep.QuietTactic
import Derived.BigQuiet
import Derived.Deep.AppendLies
import Derived.Deep.RegionLaw
import Derived.Test.YtijpflljopckiaaJ19
import Derived.Test.YtijpflljopckiaaJ10
import Derived.Test.YtijpflljopckiaaJ20
namespace Go.Proofs.Ytijpflljopckiaa
open Go.RowKit
set_option linter.unusedVariables false

/-- A shard that is not live. -/
def frS (k : Nat) : Sh := ⟨false, 0, 0, nwC k, 0, 0, [], []⟩
theorem fr_va {k : Nat} (h1 : 1 ≤ k) (h2 : k ≤ 12) : shV (frS k) = 0 := by
  obtain ⟨e1, e2⟩ := nwC_fil h1 h2 0 (by omega)
  have r : rgV (fil k 0 []) (0 : Int) (0 : Int) = 0 := rgV_fil (l := []) (hd := 0) h1 h2 (by omega) (by simp) gd_nil
  unfold shV
  rw [if_neg (fun g => g (by show rgV (nwC k) 0 0 = 0; rw [e1]; exact r)), if_neg (fun g => g ((tbV_iff [] []).2 TbOk.nil)), if_neg (show ¬ (frS k).lv = true from fun h => by cases h)]
  exact if_neg (show ¬ ((0 : Int) ≠ 0 ∨ (0 : Int) ≠ 0 ∨ (0 : Int) < (0 : Int) + (([] : List Le).length : Int)) by simp)
/-- What a source makes: a valid live shard, or one that is not live. -/
def SrSh (S : Sh) : Prop := (∃ V : Vs, V.Ok ∧ S = V.sh) ∨ ∃ k : Nat, 1 ≤ k ∧ k ≤ 12 ∧ S = frS k
theorem SrcAt.sets8 {W : World} {B g r : Nat} (h : SrcAt W B g) (hr : r ≠ g) (hB : B ≤ r) (S : Sh) (D : Sx) : SrcAt (set8s W r S D) B g :=
  (((((((h.other (p := ⟨r, 0, none⟩) hr hB _).other (p := ⟨r, 1, none⟩) hr hB _).other (p := ⟨r, 2, none⟩) hr hB _).other (p := ⟨r, 3, none⟩) hr hB _).other (p := ⟨r, 4, none⟩) hr hB _).other (p := ⟨r, 5, none⟩) hr hB _).other (p := ⟨r, 6, none⟩) hr hB _).other (p := ⟨r, 7, none⟩) hr hB _
end Go.Proofs.Ytijpflljopckiaa
namespace Go.Proofs.Ytijpflljopckiaa
open Go.RowKit
set_option linter.unusedVariables false

/-- The boxes of the epoch and of the limit that Take's function value holds. -/
def CapAt (b1 b2 : Nat) (ep lim : Int) (W : World) : Prop := W.cell? ⟨b1, 0, none⟩ = some (.int .i64 ep) ∧ W.cell? ⟨b2, 0, none⟩ = some (.int .i64 lim) ∧ b1 < W.heap.size ∧ b2 < W.heap.size
theorem CapAt.below {b1 b2 : Nat} {ep lim : Int} {w W : World} (h : CapAt b1 b2 ep lim w) (hb : Below w.heap.size w W) : CapAt b1 b2 ep lim W :=
  ⟨(hb.cell (p := ⟨b1, 0, none⟩) h.2.2.1).trans h.1, (hb.cell (p := ⟨b2, 0, none⟩) h.2.2.2).trans h.2.1, Nat.lt_of_lt_of_le h.2.2.1 hb.size, Nat.lt_of_lt_of_le h.2.2.2 hb.size⟩
section
variable {V : Vs} {mx : Nat} {f : Msg → Bool} {i : Nat}
end
theorem Ls.grownR {W W' : World} {B n c : Nat} {A : Option Addr} {l : List Msg} (h : Ls W B (.slice A n c) l) (hB : B ≤ W.heap.size) {row : Option Nat} (hg : W.grownBy W' row) (ho : ∀ q, row = some q → OffB q n A) : Ls W' B (.slice A n c) l := by
  obtain ⟨h1, h2, h3⟩ := h.len
  subst h1
  refine ⟨A, c, rfl, h2, h3, h.rd.1, fun hn => ?_⟩
  obtain ⟨b, o, e, hb, hc⟩ := h.rd.2 hn
  exact ⟨b, o, e, hb, fun j u hu => (hg.cell_far ⟨b, o + j, none⟩ (Nat.lt_of_lt_of_le hb hB) (fun e' => ho b e'.symm hn _ e rfl)).trans (hc j u hu)⟩
theorem El.grownR {W W' : World} {B n c : Nat} {A : Option Addr} {l : List Le} (h : El W B (.slice A n c) l) (hB : B ≤ W.heap.size) {row : Option Nat} (hg : W.grownBy W' row) (ho : ∀ q, row = some q → OffB q n A) : El W' B (.slice A n c) l := by
  obtain ⟨h1, h2, h3⟩ := h.len
  subst h1
  refine ⟨A, c, rfl, h2, h3, h.rd.1, fun hn => ?_⟩
  obtain ⟨b, o, e, hb, hc⟩ := h.rd.2 hn
  exact ⟨b, o, e, hb, fun j u hu => (hg.cell_far ⟨b, o + j, none⟩ (Nat.lt_of_lt_of_le hb hB) (fun e' => ho b e'.symm hn _ e rfl)).trans (hc j u hu)⟩
theorem Dl.grownR {W W' : World} {B n c : Nat} {A : Option Addr} {l : List Du} (h : Dl W B (.slice A n c) l) (hB : B ≤ W.heap.size) {row : Option Nat} (hg : W.grownBy W' row) (ho : ∀ q, row = some q → OffB q n A) : Dl W' B (.slice A n c) l := by
  obtain ⟨h1, h2, h3⟩ := h.len
  subst h1
  refine ⟨A, c, rfl, h2, h3, h.rd.1, fun hn => ?_⟩
  obtain ⟨b, o, e, hb, hc⟩ := h.rd.2 hn
  exact ⟨b, o, e, hb, fun j u hu => (hg.cell_far ⟨b, o + j, none⟩ (Nat.lt_of_lt_of_le hb hB) (fun e' => ho b e'.symm hn _ e rfl)).trans (hc j u hu)⟩
theorem SAt.grown {w W W' : World} {p : Nat} {S : Sh} {D : Sx} (h : SAt w p S D W) {row : Option Nat} (hg : W.grownBy W' row) (ho : ∀ q, row = some q → SOff S D q ∧ p < q) : SAt w p S D W' :=
  ⟨h.s8.grown hg (fun x e => by have := (ho x e).2; omega), ⟨(h.sr.ls.grownR (Nat.le_refl _) hg (fun q e => (ho q e).1.o1)).more hg.size, (h.sr.el.grownR (Nat.le_refl _) hg (fun q e => (ho q e).1.o2)).more hg.size, (h.sr.dl.grownR (Nat.le_refl _) hg (fun q e => (ho q e).1.o3)).more hg.size⟩, h.off,
   h.bel.grown hg h.bel.size (fun x e => by have := (ho x e).2; have := h.old; omega), h.old⟩
/-- The work of pull: the shard, the result box, the list that is gone through, the list that is made. -/
structure PullAt (w : World) (p r B : Nat) (S : Sh) (D : Sx) (A0 : Option Addr) (c0 : Nat) (L : List Msg) (lv : Value) (T : List Msg) (W : World) : Prop where
  sa : SAt w p S D W
  rs : SB8 W r zS zX
  l0 : Ls W B (.slice A0 L.length c0) L
  o0 : OffB p L.length A0
  own : W.ownsRow B 151 7 lv T.length (lcs T)
  dj : ∀ q, lv.ownBlock = some q → SOff S D q
  dr : D.nw (r + 1)
  ne : p < r ∧ r < B ∧ B ≤ W.heap.size
section
variable {w W W' : World} {p r B c0 : Nat} {S : Sh} {D : Sx} {A0 : Option Addr} {L T : List Msg} {lv : Value}
theorem own_below {base e size n : Nat} {v : Value} {xs : List Value} (h : W.ownsRow base e size v n xs) (hb : Below W.heap.size W W') : W'.ownsRow base e size v n xs := by
  refine ⟨h.1, h.2.imp_right fun ⟨g, cap, cur, hv, hg, hh, r⟩ => ⟨g, cap, cur, hv, hg, ?_, r⟩⟩
  rw [← hh]
  exact hb.block g (Array.getElem?_eq_some_iff.1 hh).1
theorem PullAt.below (h : PullAt w p r B S D A0 c0 L lv T W) (hb : Below W.heap.size W W') : PullAt w p r B S D A0 c0 L lv T W' :=
  ⟨h.sa.below hb, h.rs.up hb, h.l0.below (hb.mono h.ne.2.2), h.o0, own_below h.own hb, h.dj, h.dr, h.ne.1, h.ne.2.1, Nat.le_trans h.ne.2.2 hb.size⟩
/-- A message more. -/
theorem PullAt.app {lv' : Value} {T' : List Msg} (h : PullAt w p r B S D A0 c0 L lv T W) (ho : W'.ownsRow B 151 7 lv' T'.length (lcs T')) (hg : W.grownBy W' lv.ownBlock) (hw : ∀ q, lv'.ownBlock = some q → lv.ownBlock = some q ∨ W.heap.size ≤ q) : PullAt w p r B S D A0 c0 L lv' T' W' := by
  have hne := h.ne
  have hlt : ∀ q, lv.ownBlock = some q → B ≤ q := fun q e => (h.own.lt q e).1
  refine ⟨h.sa.grown hg (fun q e => ⟨h.dj q e, by have := hlt q e; omega⟩), h.rs.grown hg (fun q e => by have := hlt q e; omega), h.l0.grownR hne.2.2 hg (fun q e => ?_), h.o0, ho, fun q e => ?_, h.dr, hne.1, hne.2.1, Nat.le_trans hne.2.2 hg.size⟩
  · exact rd_off h.l0.rd (hlt q e)
  · rcases hw q e with e' | e'
    · exact h.dj q e'
    · exact h.sa.sr.offs e'
end
end Go.Proofs.Ytijpflljopckiaa
namespace Go.Proofs.Ytijpflljopckiaa
open Go.RowKit
set_option linter.unusedVariables false

theorem Ls.upz {W W' : World} {L : List Msg} {v : Value} (h : Ls W W.heap.size v L) (hb : Below W.heap.size W W') : Ls W' W'.heap.size v L := (h.below hb).more hb.size
/-- The work of All: the shard, what Ready has returned (r4), the list with it (r5), what Leased has returned (r7). -/
structure AlAt (w : World) (p B : Nat) (S : Sh) (D : Sx) (L T : List Msg) (r4 r5 r7 : Option Value) (W : World) : Prop where
  sa : SAt w p S D W
  f4 : ∀ v, r4 = some v → Ls W W.heap.size v L
  f5 : ∀ v, r5 = some v → W.ownsRow B 151 7 v L.length (lcs L)
  f7 : ∀ v, r7 = some v → Ls W W.heap.size v T
  z : W.ownsRow B 151 7 (.slice none 0 0) 0 []
  pb : p < B ∧ B ≤ W.heap.size
  off : ∀ q, B ≤ q → SOff S D q
section
variable {w W W' : World} {p B : Nat} {S : Sh} {D : Sx} {L T : List Msg} {r4 r5 r7 : Option Value} {v : Value}
theorem AlAt.below (h : AlAt w p B S D L T r4 r5 r7 W) (hb : Below W.heap.size W W') : AlAt w p B S D L T r4 r5 r7 W' :=
  ⟨h.sa.below hb, fun v e => (h.f4 v e).upz hb, fun v e => own_below (h.f5 v e) hb, fun v e => (h.f7 v e).upz hb, World.ownsRow_nil _ _ _ _, ⟨h.pb.1, Nat.le_trans h.pb.2 hb.size⟩, h.off⟩
theorem AlAt.drew (h : AlAt w p B S D L T r4 r5 r7 W) : AlAt w p B S D L T r4 r5 r7 W.drew := h.below (Below.refl _ _).drew
theorem AlAt.a4 (h : AlAt w p B S D L T r4 r5 r7 W) (hb : Below W.heap.size W W') (hl : Ls W' W'.heap.size v L) : AlAt w p B S D L T (some v) r5 r7 W' :=
  ⟨(h.below hb).sa, fun u e => by injection e with e; subst e; exact hl, (h.below hb).f5, (h.below hb).f7, World.ownsRow_nil _ _ _ _, (h.below hb).pb, h.off⟩
theorem AlAt.a7 (h : AlAt w p B S D L T r4 r5 r7 W) (hb : Below W.heap.size W W') (hl : Ls W' W'.heap.size v T) : AlAt w p B S D L T r4 r5 (some v) W' :=
  ⟨(h.below hb).sa, (h.below hb).f4, (h.below hb).f5, fun u e => by injection e with e; subst e; exact hl, World.ownsRow_nil _ _ _ _, (h.below hb).pb, h.off⟩
theorem AlAt.a5 (h : AlAt w p B S D L T r4 none r7 W) (ho : W'.ownsRow B 151 7 v (0 + L.length) ([] ++ lcs L)) (hg : W.grownBy W' (Value.ownBlock (.slice none 0 0))) : AlAt w p B S D L T r4 (some v) r7 W' := by
  have hb : Below W.heap.size W W' := ((Below.refl _ _).grown hg (Nat.le_refl _) (fun x e => by simp [Value.ownBlock] at e))
  have := h.below hb
  refine ⟨this.sa, this.f4, fun u e => by injection e with e; subst e; simpa using ho, this.f7, this.z, this.pb, h.off⟩
theorem AlAt.a8 (h : AlAt w p B S D L T r4 (some v) r7 W) {u : Value} (ho : W'.ownsRow B 151 7 u (L.length + T.length) (lcs L ++ lcs T)) (hg : W.grownBy W' v.ownBlock) : ∃ A c, u = .slice A (L ++ T).length c ∧ Ls W' W'.heap.size (.slice A (L ++ T).length c) (L ++ T) ∧ Below w.heap.size w W' := by
  obtain ⟨A, c, rfl⟩ := own_form ho
  have e : L.length + T.length = (L ++ T).length := by simp
  rw [e, ← lcs_app] at ho
  refine ⟨A, c, by rw [e], Ls.of_own ho, h.sa.bel.grown hg h.sa.bel.size (fun x e => ?_)⟩
  have h1 := ((h.f5 v rfl).lt x e).1
  have h2 := h.pb.1
  have h3 := h.sa.old
  omega
end
end Go.Proofs.Ytijpflljopckiaa
namespace Go.Proofs.Ytijpflljopckiaa
open Go.RowKit
set_option linter.unusedVariables false

/-- The box and the list of all messages. -/
structure VaAt (w : World) (p : Nat) (S : Sh) (D : Sx) (v : Value) (L : List Msg) (W : World) : Prop where
  sa : SAt w p S D W
  ls : Ls W W.heap.size v L
theorem VaAt.below {w W W' : World} {p : Nat} {S : Sh} {D : Sx} {v : Value} {L : List Msg} (h : VaAt w p S D v L W) (hb : Below W.heap.size W W') : VaAt w p S D v L W' := ⟨h.sa.below hb, h.ls.upz hb⟩
end Go.Proofs.Ytijpflljopckiaa
namespace Go.Proofs.Ytijpflljopckiaa
open Go.RowKit
set_option linter.unusedVariables false

set_option maxHeartbeats 4000000 in
set_option maxRecDepth 20000 in
theorem sfree_any (k : Nat) (w : World) (h1 : 1 ≤ k) (h2 : k ≤ 12) :
    Calls Try.prog 68 #[.int .i64 (k : Int)] w (SE w (frS k) 0) := by
  have R0 := Lib.hid (SB8.zero w 85)
  have B0 := Lib.hid ((Below.refl w.heap.size w).alloc (Nat.le_refl _) (.cells #[.bool false, .int .i64 0, .int .i64 0, .slice none 0 0, .int .i64 0, .int .i64 0, .slice none 0 0, .slice none 0 0] 85))
  have HN := Lib.hid (fun W => gnew_any (k : Int) W)
  have hnl : (nwC (k : Int)).length = k := by rw [(nwC_fil h1 h2 0 (by omega)).1, fil_len]
  rw [(nwC_fil h1 h2 0 (by omega)).2] at HN
  obtain ⟨S, hS⟩ : ∃ S, S = frS k := ⟨_, rfl⟩
  have HS := Lib.hid (show S = ⟨false, 0, 0, nwC k, 0, 0, [], []⟩ from hS)
  rw [← hS]
  clear hS
  generalize nwC (k : Int) = cs at *
  go_enter Try.func68, Try.ntmps68
  go_wp2_with fail
  obtain ⟨r, hr⟩ : ∃ r, r = w.heap.size := ⟨_, rfl⟩
  have HRW := Lib.hid (show w.heap.size ≤ r by omega)
  rw [← hr]
  rw [← hr] at R0
  clear hr
  generalize (w.alloc (.cells #[.bool false, .int .i64 0, .int .i64 0, .slice none 0 0, .int .i64 0, .int .i64 0, .slice none 0 0, .slice none 0 0] 85)) = w1 at *
  refine (HN.out _).mono ?_
  rintro e w2 ⟨A, c, rfl, hnw, hl, hb⟩
  have B2 := Lib.hid (btr B0.out hb)
  have R2 := Lib.hid (R0.out.up hb)
  have L2 := Lib.hid hl
  have N2 := Lib.hid (nw_low hnw (show r + 1 ≤ _ from R0.out.lt))
  clear hb hl hnw
  rw [hnl] at L2 ⊢
  have HF := Lib.hid (show SE w S 0 (.returned (.tuple #[.agg #[.bool false, .int .i64 0, .int .i64 0, .slice A k c, .int .i64 0, .int .i64 0, .slice none 0 0, .slice none 0 0], .int .i64 0])) ((((((((((w2.setCell ⟨r, 0, none⟩ (.bool false)).setCell ⟨r, 1, none⟩ (.int .i64 0)).setCell ⟨r, 2, none⟩ (.int .i64 0)).setCell ⟨r, 3, none⟩ (.slice A k c)).setCell ⟨r, 4, none⟩ (.int .i64 0)).setCell ⟨r, 5, none⟩ (.int .i64 0)).setCell ⟨r, 6, none⟩ (.slice none 0 0)).setCell ⟨r, 7, none⟩ (.slice none 0 0)).alloc (.cells #[.slice A k c, .int .i64 0, .int .i64 0] 79))) from by
    rw [HS.out]
    subst hnl
    exact ⟨⟨A, c, none, 0, none, 0⟩, rfl, ⟨nw_low N2.out (by have := HRW.out; omega), nw_none, nw_none⟩, (SR.sets (S := ⟨false, 0, 0, cs, 0, 0, [], []⟩) (D := ⟨A, c, none, 0, none, 0⟩) ⟨offb_nw N2.out (Nat.lt_succ_self r), offb_none, offb_none⟩ (Sh.l8 ⟨false, 0, 0, cs, 0, 0, [], []⟩ ⟨A, c, none, 0, none, 0⟩) 0 w2 ⟨L2.out, El.nil, Dl.nil⟩).up ((Below.refl _ _).alloc (Nat.le_refl _) _), bal (set8s_below HRW.out B2.out ⟨false, 0, 0, cs, 0, 0, [], []⟩ ⟨A, c, none, 0, none, 0⟩) _⟩)
  obtain ⟨⟨r0, r1, r2, r3, r4, r5, r6, r7, rl⟩, ⟨g0, g1, g2, g3, g4, g5, g6, g7⟩⟩ := R2.out.all
  clear hnl
  go_wp2
  exact bodyPost_ret (v := .tuple #[.agg #[.bool false, .int .i64 0, .int .i64 0, .slice A k c, .int .i64 0, .int .i64 0, .slice none 0 0, .slice none 0 0], .int .i64 0]) (by simp only [results, Try.results68]; go_simp <;> rfl) rfl HF.out
end Go.Proofs.Ytijpflljopckiaa
