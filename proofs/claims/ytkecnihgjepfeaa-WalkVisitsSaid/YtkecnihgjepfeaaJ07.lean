/- What is proved here: (plain) each route has exactly one owner; New gives a valid directory; directory.merge by a contract; directory.Apply by a contract; what DirectoryOwners and DirectoryHomes hold while a change is drawn and applied; ref10.index, ref10.Validate by contracts. -/
import Derived.Test.YtkecnihgjepfeaaJ06
import Derived.Test.YtkecnihgjepfeaaJ05
import Derived.Test.YtkecnihgjepfeaaJ04
import Derived.Test.YtkecnihgjepfeaaRows
import Derived.Test.YtkecnihgjepfeaaJ01
import Derived.WalkKit
import Derived.Outline
import Derived.IntWalk
import Derived.Deep.RegionHeld3
import Derived.Deep.DrawnRows
import Derived.Deep.RegionWith
import Derived.Laws.EntriesVeiled
namespace Go.Proofs.Ytkecnihgjepfeaa
set_option linter.unusedVariables false

theorem nw_va {n m : Nat} (h1 : 1 ≤ m) (h2 : m ≤ n) (h3 : n ≤ 6) : vaD (nwD n m) = 0 := by
  have hE : nwE10 n m = 0 := by unfold nwE10; rw [if_pos (by omega)]
  have e : nwD n m = ⟨1, nwL m m, List.replicate n (-1)⟩ := by unfold nwD; rw [if_pos hE]; simp
  rw [e]
  clear hE e
  have hn : n = 1 ∨ n = 2 ∨ n = 3 ∨ n = 4 ∨ n = 5 ∨ n = 6 := by omega
  have hm : m = 1 ∨ m = 2 ∨ m = 3 ∨ m = 4 ∨ m = 5 ∨ m = 6 := by omega
  rcases hn with rfl | rfl | rfl | rfl | rfl | rfl <;> rcases hm with rfl | rfl | rfl | rfl | rfl | rfl
  all_goals first
    | (exfalso; omega)
    | exact vaD_dec (by unfold rgD; decide +kernel) (by decide +kernel) (by decide +kernel) (by decide +kernel) (by decide +kernel) (by decide +kernel)
end Go.Proofs.Ytkecnihgjepfeaa
namespace Go.Proofs.Ytkecnihgjepfeaa
open Go.RowKit
set_option linter.unusedVariables false

abbrev MgS (p q g f u : Nat) (d : Dd) (X : Dx) (e : Ed) (W : World) : Prop := W.cell? ⟨p, 1, none⟩ = some (.slice (some ⟨g, 0, none⟩) d.l.length X.c) ∧ W.cell? ⟨q, 2, none⟩ = some (.int .i64 e.to) ∧ W.cell? ⟨g, f * 3, none⟩ = some (.int .i64 (sg d.l f).lo) ∧ W.cell? ⟨g, u * 3 + 1, none⟩ = some (.int .i64 (sg d.l u).hi)
theorem MgS.set {p q g f u : Nat} {d : Dd} {X : Dx} {e : Ed} {W : World} (h : MgS p q g f u d X e W) (hu : u = f + 1) (hp : p ≠ g) (hq : q ≠ g) (u' v : Value) : MgS p q g f u d X e (((W.setCell ⟨g, f * 3, none⟩ (.int .i64 (sg d.l f).lo)).setCell ⟨g, f * 3 + 1, none⟩ u').setCell ⟨g, f * 3 + 2, none⟩ v) := by
  obtain ⟨h1, h2, h3, h4⟩ := h
  have o : ∀ (a b : Addr) (u : Value) (W : World), a ≠ b → (W.setCell b u).cell? a = W.cell? a := fun a b u W hn => World.cell?_setCell_other W b a u (fun e => hn (by first | exact e | exact e.symm))
  have n1 : ∀ j, (⟨p, 1, none⟩ : Addr) ≠ ⟨g, j, none⟩ := fun j e => hp (by injection e)
  have n2 : ∀ j, (⟨q, 2, none⟩ : Addr) ≠ ⟨g, j, none⟩ := fun j e => hq (by injection e)
  have n3 : ∀ i j, i ≠ j → (⟨g, i, none⟩ : Addr) ≠ ⟨g, j, none⟩ := fun i j hn e => hn (by injection e)
  refine ⟨by rw [o _ _ _ _ (n1 _), o _ _ _ _ (n1 _), o _ _ _ _ (n1 _)]; exact h1, by rw [o _ _ _ _ (n2 _), o _ _ _ _ (n2 _), o _ _ _ _ (n2 _)]; exact h2, ?_, by rw [o _ _ _ _ (n3 _ _ (by omega)), o _ _ _ _ (n3 _ _ (by omega)), o _ _ _ _ (n3 _ _ (by omega))]; exact h4⟩
  rw [o _ _ _ _ (n3 _ _ (by omega)), o _ _ _ _ (n3 _ _ (by omega))]
  simp [go_sem, h3]
end Go.Proofs.Ytkecnihgjepfeaa
namespace Go.Proofs.Ytkecnihgjepfeaa
open Go.RowKit
set_option linter.unusedVariables false

/-- The boxes of Apply: a directory, a change, a result. -/
structure Ab (w : World) (p q r : Nat) (d : Dd) (X : Dx) (e : Ed) (W : World) : Prop where
  da : DAt w p d X W
  eb : EB W q e
  rb : Db10 W r zD10 zDx
  ne : w.heap.size ≤ p ∧ p < q ∧ q < r
  of : ∀ z, w.heap.size ≤ z → DOff d X z
section
variable {w W W' : World} {p q r : Nat} {d : Dd} {X : Dx} {e : Ed}
theorem Ab.below (h : Ab w p q r d X e W) (hb : Below W.heap.size W W') : Ab w p q r d X e W' := ⟨h.da.below hb, h.eb.up hb, h.rb.up hb, h.ne, h.of⟩
theorem Ab.start (d : Dd) (X : Dx) (e : Ed) (hd : DR w w.heap.size d X) : Ab w w.heap.size (w.heap.size + 1) (w.heap.size + 1 + 1) d X e (((w.alloc (.cells #[.int .i64 d.vn, .slice X.A d.l.length X.c, .slice X.A2 d.F.length X.c2] 40)).alloc (.cells #[.int .i64 e.kd, .int .i64 e.fr, .int .i64 e.to, .int .i64 e.md] 55)).alloc (.cells #[.int .i64 0, .slice none 0 0, .slice none 0 0] 40)) := by
  have e1 : (w.alloc (.cells #[.int .i64 d.vn, .slice X.A d.l.length X.c, .slice X.A2 d.F.length X.c2] 40)).heap.size = w.heap.size + 1 := by simp
  have e2 : ((w.alloc (.cells #[.int .i64 d.vn, .slice X.A d.l.length X.c, .slice X.A2 d.F.length X.c2] 40)).alloc (.cells #[.int .i64 e.kd, .int .i64 e.fr, .int .i64 e.to, .int .i64 e.md] 55)).heap.size = w.heap.size + 1 + 1 := by simp
  have h1 := (EB.start (w.alloc (.cells #[.int .i64 d.vn, .slice X.A d.l.length X.c, .slice X.A2 d.F.length X.c2] 40)) e 55).alloc (.cells #[.int .i64 0, .slice none 0 0, .slice none 0 0] 40)
  have h2 := Db10.zero ((w.alloc (.cells #[.int .i64 d.vn, .slice X.A d.l.length X.c, .slice X.A2 d.F.length X.c2] 40)).alloc (.cells #[.int .i64 e.kd, .int .i64 e.fr, .int .i64 e.to, .int .i64 e.md] 55)) 40
  rw [e1] at h1
  rw [e2] at h2
  exact ⟨((DAt.start _ hd).alloc _).alloc _, h1, h2, ⟨Nat.le_refl _, by omega, by omega⟩, fun z hz => hd.offs hz⟩
theorem Ab.out0 (h : Ab w p q r d X e W) (x : Int) : DE w.heap.size w zD10 x (.returned (.tuple #[.agg #[.int .i64 0, .slice none 0 0, .slice none 0 0], .int .i64 x])) (((W.setCell ⟨r, 0, none⟩ (.int .i64 0)).setCell ⟨r, 1, none⟩ (.slice none 0 0)).setCell ⟨r, 2, none⟩ (.slice none 0 0)) := by
  have hp := h.ne
  have hb := h.da.bel
  exact ⟨zDx, rfl, zDx_nw _, DR.zero, ((hb.setCell (p := ⟨r, 0, none⟩) (show w.heap.size ≤ r by omega) _).setCell (p := ⟨r, 1, none⟩) (show w.heap.size ≤ r by omega) _).setCell (p := ⟨r, 2, none⟩) (show w.heap.size ≤ r by omega) _⟩
/-- A result that a call gave, stored into the result box. -/
theorem Ab.out (h : Ab w p q r d X e W) {B : Nat} {D : Dd} {Y : Dx} (hn : Y.nw B) (hB : r < B) (hr : DR W W.heap.size D Y) (x : Int) : DE w.heap.size w D x (.returned (.tuple #[dv D Y, .int .i64 x])) (((W.setCell ⟨r, 0, none⟩ (.int .i64 D.vn)).setCell ⟨r, 1, none⟩ (.slice Y.A D.l.length Y.c)).setCell ⟨r, 2, none⟩ (.slice Y.A2 D.F.length Y.c2)) := by
  have hp := h.ne
  have hb := h.da.bel
  have f : ∀ o, DOff D Y (⟨r, o, none⟩ : Addr).block := fun o => hn.off hB
  exact ⟨Y, rfl, hn.low (by omega), (((hr.offp (q := ⟨r, 0, none⟩) (f 0) _).offp (q := ⟨r, 1, none⟩) (f 1) _).offp (q := ⟨r, 2, none⟩) (f 2) _).more (by simp), ((hb.setCell (p := ⟨r, 0, none⟩) (show w.heap.size ≤ r by omega) _).setCell (p := ⟨r, 1, none⟩) (show w.heap.size ≤ r by omega) _).setCell (p := ⟨r, 2, none⟩) (show w.heap.size ≤ r by omega) _⟩
end
/-- .. with what the copies have given, and the box of the next directory. -/
structure Nx (w : World) (p q r : Nat) (d : Dd) (X : Dx) (e : Ed) (oL oF : Option Value) (oX : Option Nat) (W : World) : Prop where
  ab : Ab w p q r d X e W
  fl : ∀ v, oL = some v → W.ownsRow (r + 1) 44 3 v d.l.length (scs d.l)
  ff : ∀ v, oF = some v → W.ownsRow (r + 1) 3 1 v d.F.length (ics d.F)
  fx : ∀ x, oX = some x → Db10 W x zD10 zDx ∧ r < x
  d1 : ∀ u v, oL = some u → oF = some v → ∀ k, u.ownBlock = some k → v.ownBlock ≠ some k
  d2 : ∀ u x, oL = some u → oX = some x → ∀ k, u.ownBlock = some k → k ≠ x
  d3 : ∀ u x, oF = some u → oX = some x → ∀ k, u.ownBlock = some k → k ≠ x
section
variable {w W W' : World} {p q r : Nat} {d : Dd} {X : Dx} {e : Ed} {a b : Option Value} {c : Option Nat}
theorem Nx.below (h : Nx w p q r d X e a b c W) (hb : Below W.heap.size W W') : Nx w p q r d X e a b c W' :=
  ⟨h.ab.below hb, fun v ev => own_up10 (h.fl v ev) hb, fun v ev => own_up10 (h.ff v ev) hb, fun x ex => ⟨(h.fx x ex).1.up hb, (h.fx x ex).2⟩, h.d1, h.d2, h.d3⟩
theorem Nx.drew (h : Nx w p q r d X e a b c W) : Nx w p q r d X e a b c W.drew := h.below (Below.refl _ _).drew
theorem Nx.start (h : Ab w p q r d X e W) : Nx w p q r d X e none none none W := ⟨h, by simp, by simp, by simp, by simp, by simp, by simp⟩
theorem Nx.ax (h : Nx w p q r d X e a b none W) (t : TypeId) : Nx w p q r d X e a b (some W.heap.size) (W.alloc (.cells #[.int .i64 0, .slice none 0 0, .slice none 0 0] t)) := by
  have k := h.below ((Below.refl _ _).alloc (Nat.le_refl _) (.cells #[.int .i64 0, .slice none 0 0, .slice none 0 0] t))
  refine ⟨k.ab, k.fl, k.ff, fun x ex => ?_, k.d1, fun u x eu ex j hj => ?_, fun u x eu ex j hj => ?_⟩
  · injection ex with ex; subst ex
    exact ⟨Db10.zero W t, h.ab.rb.lt⟩
  · injection ex with ex; subst ex
    have := ((h.fl u eu).lt j hj).2; omega
  · injection ex with ex; subst ex
    have := ((h.ff u eu).lt j hj).2; omega
theorem Nx.cf (h : Nx w p q r d X e a none c W) {v : Value} (ho : W'.ownsRow W.heap.size 3 1 v d.F.length (ics d.F)) (hb : Below W.heap.size W W') : Nx w p q r d X e a (some v) c W' := by
  have k := h.below hb
  refine ⟨k.ab, k.fl, fun u eu => ?_, k.fx, fun u x eu ex j hj => ?_, k.d2, fun u x eu ex j hj => ?_⟩
  · injection eu with eu; subst eu
    exact own_low ho h.ab.rb.lt
  · injection ex with ex; subst ex
    intro e2
    have h1 := ((h.fl u eu).lt j hj).2
    have h2 := (ho.lt j e2).1
    omega
  · injection eu with eu; subst eu
    have h1 := (h.fx x ex).1.lt
    have h2 := (ho.lt j hj).1
    omega
theorem Nx.xf {x : Nat} (h : Nx w p q r d X e a b (some x) W) : Db10 W x zD10 zDx ∧ r < x := h.fx x rfl
end
section
variable {w W W' : World} {p q r : Nat} {d : Dd} {X : Dx} {e : Ed} {A A2 : Option Addr} {c c2 : Nat}
end
theorem Ab.k3 {w W W' : World} {p q r : Nat} {d : Dd} {X : Dx} {e : Ed} (h : Ab w p q r d X e W) (hb : Below (p + 1) W W') : K3 p d X W' :=
  ⟨(hb.cell (p := ⟨p, 0, none⟩) (Nat.lt_succ_self p)).trans h.da.db.c0, (hb.cell (p := ⟨p, 1, none⟩) (Nat.lt_succ_self p)).trans h.da.db.c1, (hb.cell (p := ⟨p, 2, none⟩) (Nat.lt_succ_self p)).trans h.da.db.c2⟩
/-- The numbers of a valid directory's spans. -/
theorem ok_lo {d : Dd} (h : OkD d) : ∀ k, k < d.l.length → 0 ≤ (sg d.l k).lo
  | 0, hk => by have a := (h.sp 0 hk).1; rw [nxD_zero] at a; omega
  | k + 1, hk => by
    have a := (h.sp (k + 1) hk).1
    have b := (h.sp k (by omega)).2.1
    have c := ok_lo h k (by omega)
    rw [nxD_succ] at a
    omega
theorem ok_rng {d : Dd} (h : OkD d) {k : Nat} (hk : k < d.l.length) : 0 ≤ (sg d.l k).lo ∧ (sg d.l k).lo ≤ (sg d.l k).hi ∧ (sg d.l k).hi ≤ 65535 := ⟨ok_lo h k hk, (h.sp k hk).2⟩
end Go.Proofs.Ytkecnihgjepfeaa
namespace Go.Proofs.Ytkecnihgjepfeaa
open Go.RowKit
set_option linter.unusedVariables false

theorem okd_len {d : Dd} (h : vaD d = 0) : d.l.length ≤ 6 := by
  have ho := ok_va h
  have h1 := ho.rg.2.2
  have := pig d.F.length d.l.length (fun v => (sg d.l v).sh.toNat) (fun v hv => by
    have := ho.ms v hv
    show (sg d.l v).sh.toNat < d.F.length
    omega) (fun u v huv hv he => by
    have e1 := ho.ms u (by omega)
    have e2 := ho.ms v hv
    have he' : (sg d.l u).sh.toNat = (sg d.l v).sh.toNat := he
    exact ho.du ⟨u, v, huv, hv, by omega⟩)
  omega
theorem DsAt.other {w W : World} {B g p : Nat} {d : Dd} {X : Dx} (h : DsAt w B g p d X W) {a : Addr} (h1 : a.block ≠ p) (h2 : a.block ≠ g) (h3 : DOff d X a.block) (h4 : w.heap.size ≤ a.block) (v : Value) : DsAt w B g p d X (W.setCell a v) :=
  ⟨h.src.other h2 (by have := h.ne; omega) v, h.db.other h1 v, (h.dr.offp (q := a) h3 v).more (by simp), h.op, h.og, h.ne, h.bel.setCell (p := a) h4 v⟩
/-- .. and the box of the next directory, once it is made. -/
structure DnAt (w : World) (B g p : Nat) (d : Dd) (X : Dx) (oz : Option Nat) (W : World) : Prop where
  ds : DsAt w B g p d X W
  zb : ∀ z, oz = some z → Db10 W z zD10 zDx ∧ z ≠ g ∧ z ≠ p ∧ w.heap.size ≤ z ∧ DOff d X z
section
variable {w W W' : World} {B g p : Nat} {d : Dd} {X : Dx} {oz : Option Nat}
theorem DnAt.start (h : DsAt w B g p d X W) : DnAt w B g p d X none W := ⟨h, by simp⟩
theorem DnAt.below (h : DnAt w B g p d X oz W) (hb : Below W.heap.size W W') : DnAt w B g p d X oz W' := ⟨h.ds.below hb, fun z e => ⟨(h.zb z e).1.up hb, (h.zb z e).2⟩⟩
theorem DnAt.drew (h : DnAt w B g p d X oz W) : DnAt w B g p d X oz W.drew := h.below (Below.refl _ _).drew
theorem DnAt.turn (h : DnAt w B g p d X oz W) (hs : SrcAt W' B g) (hg : W.grownBy W' (some g)) : DnAt w B g p d X oz W' := ⟨h.ds.turn hs hg, fun z e => ⟨(h.zb z e).1.grown hg (h.zb z e).2.1, (h.zb z e).2⟩⟩
theorem DnAt.ax (h : DnAt w B g p d X none W) (t : TypeId) : DnAt w B g p d X (some W.heap.size) (W.alloc (.cells #[.int .i64 0, .slice none 0 0, .slice none 0 0] t)) := by
  refine ⟨h.ds.below ((Below.refl _ _).alloc (Nat.le_refl _) _), fun z e => ?_⟩
  injection e with e
  subst e
  have h1 := h.ds.src.2.1
  have h2 := h.ds.db.lt
  have h3 := h.ds.bel.size
  exact ⟨Db10.zero W t, by omega, by omega, h3, h.ds.dr.offs (Nat.le_refl _)⟩
theorem DnAt.xf {z : Nat} (h : DnAt w B g p d X (some z) W) : Db10 W z zD10 zDx ∧ z ≠ g ∧ z ≠ p := ⟨(h.zb z rfl).1, (h.zb z rfl).2.1, (h.zb z rfl).2.2.1⟩
theorem DnAt.k3 (h : DnAt w B g p d X oz W) {u : World} (hb : Below (p + 1) W u) : K3 p d X u := by
  obtain ⟨⟨x0, x1, x2, xl⟩, -⟩ := h.ds.db.all
  exact ⟨(hb.cell (p := ⟨p, 0, none⟩) (Nat.lt_succ_self p)).trans x0, (hb.cell (p := ⟨p, 1, none⟩) (Nat.lt_succ_self p)).trans x1, (hb.cell (p := ⟨p, 2, none⟩) (Nat.lt_succ_self p)).trans x2⟩
end
section
variable {w W W' : World} {B g p : Nat} {d d' : Dd} {X Y : Dx}
end
end Go.Proofs.Ytkecnihgjepfeaa
namespace Go.Proofs.Ytkecnihgjepfeaa
open Go.RowKit
set_option linter.unusedVariables false

set_option maxHeartbeats 2000000 in
theorem rindex10_any (d : Dd) (X : Dx) (s : Int) (w : World) (hd : DR w w.heap.size d X) :
    Calls Try.prog 25 #[dv d X, .int .i64 s] w fun e w' => e = .returned (.int .i64 (ixS d.l s)) ∧ Below w.heap.size w w' := by
  have H0 := Lib.hid (DAt.start 40 hd)
  have hL : d.l.length ≤ 9223372036854775807 := by have h2 := hd.pl.len.2.2; have h1 := hd.pl.len.2.1; unfold maxLen at h2; omega
  obtain ⟨p, hp⟩ : ∃ p, p = w.heap.size := ⟨_, rfl⟩
  have HPP := Lib.hid hp
  clear hd hp
  go_enter Try.func25, Try.ntmps25
  go_wp2
  have H0 := Lib.hid (show DAt w p d X (w.alloc (.cells #[.int .i64 d.vn, .slice X.A d.l.length X.c, .slice X.A2 d.F.length X.c2] 40)) from by rw [HPP.out]; exact H0.out)
  rw [← HPP.out]
  generalize w.alloc (.cells #[.int .i64 d.vn, .slice X.A d.l.length X.c, .slice X.A2 d.F.length X.c2] 40) = w0 at *
  go_loopw [5] (fun i wr => ∃ k : Nat, k ≤ d.l.length ∧ i = .int .i64 k ∧ wr = w0 ∧ ∀ j, j < k → (sg d.l j).sh ≠ s) (fun i _ => d.l.length - (intOf i).toNat)
  case atStart => exact ⟨0, by omega, rfl, rfl, fun j h => absurd h (by omega)⟩
  case round =>
    obtain ⟨k, hk, rfl, rfl, hno⟩ := hrel
    have HN := Lib.hid hno
    clear hno
    obtain ⟨⟨x0, x1, x2, xl⟩, -⟩ := H0.out.db.all
    by_cases hlt : k < d.l.length
    · obtain ⟨b, o, hA, hbl, c0, c1, c2⟩ := H0.out.dr.pl.atg hlt
      rw [hA] at x1
      clear hA
      by_cases he : (sg d.l k).sh = s
      · have HR := Lib.hid (ixS_hit hlt he HN.out)
        have heq : ((sg d.l k).sh == s) = true := by simpa using he
        clear he
        generalize sg d.l k = M at *
        go_wp2
        go_ret
        exact ⟨by rw [HR.out]; rfl, H0.out.bel⟩
      · have HNN := Lib.hid (show ∀ j, j < k + 1 → (sg d.l j).sh ≠ s from fun j h => by
          by_cases e : j = k
          · rw [e]; exact he
          · exact HN.out j (by omega))
        have heq : ((sg d.l k).sh == s) = false := by simpa using he
        clear he
        generalize sg d.l k = M at *
        go_wp2
        go_roundw
        case rel => exact ⟨k + 1, by omega, by go_num, by trivial, HNN.out⟩
        case measure => simp [intOf]; omega
    · have HR := Lib.hid (ixS_none (s := s) (fun j hj => HN.out j (by omega)))
      go_wp2
      go_ret
      exact ⟨by rw [HR.out]; rfl, H0.out.bel⟩

theorem rg_not {d : Dd} (h : ¬ rgD d) : d.vn < 1 ∨ (¬ d.vn < 1 ∧ 1099511627776 < d.vn) ∨ (¬ d.vn < 1 ∧ ¬ 1099511627776 < d.vn ∧ (d.F.length : Int) < 1) ∨ (¬ d.vn < 1 ∧ ¬ 1099511627776 < d.vn ∧ ¬ (d.F.length : Int) < 1 ∧ 6 < (d.F.length : Int)) := by
  by_cases h1 : d.vn < 1
  · exact .inl h1
  · by_cases h2 : 1099511627776 < d.vn
    · exact .inr (.inl ⟨h1, h2⟩)
    · by_cases h3 : (d.F.length : Int) < 1
      · exact .inr (.inr (.inl ⟨h1, h2, h3⟩))
      · by_cases h4 : 6 < (d.F.length : Int)
        · exact .inr (.inr (.inr ⟨h1, h2, h3, h4⟩))
        · exact absurd ⟨⟨by omega, by omega⟩, by omega, by omega⟩ h
/-- The cells that a comparison of an index loads. -/
abbrev IxK (p : Nat) (d : Dd) (X : Dx) (b o n c : Nat) (s : Int) (k : Nat) (W : World) : Prop := W.cell? ⟨p, 0, none⟩ = some (.int .i64 d.vn) ∧ W.cell? ⟨p, 1, none⟩ = some (.slice (some ⟨b, o, none⟩) n c) ∧ W.cell? ⟨p, 2, none⟩ = some (.slice X.A2 d.F.length X.c2) ∧ W.cell? ⟨b, o + k * 3 + 2, none⟩ = some (.int .i64 s)
/-- A number as a result, nothing old turned. -/
abbrev VlX (w : World) (x : Int) (e : Ending) (w' : World) : Prop := e = .returned (.int .i64 x) ∧ Below w.heap.size w w'
set_option maxHeartbeats 8000000 in
set_option maxRecDepth 20000 in
theorem rvalid10_any (d : Dd) (X : Dx) (w : World) (hd : DR w w.heap.size d X) :
    Calls Try.prog 24 #[dv d X] w (VlX w (vaD d)) := by
  have H0 := Lib.hid (DAt.start 40 hd)
  have HIX := Lib.hid (fun p s W (k : DAt w p d X W) => rindex10_any d X s W k.dr)
  have hL : d.l.length ≤ 9223372036854775807 := by have h2 := hd.pl.len.2.2; have h1 := hd.pl.len.2.1; unfold maxLen at h2; omega
  obtain ⟨p, hp⟩ : ∃ p, p = w.heap.size := ⟨_, rfl⟩
  obtain ⟨V, hV⟩ : ∃ V, V = vaD d := ⟨_, rfl⟩
  rw [← hV]
  have HVV := Lib.hid hV
  have HPP := Lib.hid hp
  clear hd hV hp
  by_cases hr : rgD d
  · have hv1 : ¬ d.vn < 1 := by have := hr.1.1; omega
    have hv2 : ¬ 1099511627776 < d.vn := by have := hr.1.2; omega
    have hn1 : ¬ (d.F.length : Int) < 1 := by have := hr.2.1; omega
    have hn2 : ¬ 6 < (d.F.length : Int) := by have := hr.2.2; omega
    have HRG := Lib.hid hr
    clear hr
    go_enter Try.func24, Try.ntmps24
    go_wp2
    have H0 := Lib.hid (show DAt w p d X (w.alloc (.cells #[.int .i64 d.vn, .slice X.A d.l.length X.c, .slice X.A2 d.F.length X.c2] 40)) from by rw [HPP.out]; exact H0.out)
    rw [← HPP.out]
    generalize w.alloc (.cells #[.int .i64 d.vn, .slice X.A d.l.length X.c, .slice X.A2 d.F.length X.c2] 40) = w0 at *
    have hn6 : d.F.length ≤ 6 := by omega
    have HZ := Lib.hid (nxD_zero d.l)
    clear hv1 hv2 hn1 hn2
    go_loopw [4, 5] (fun nx i wr => ∃ k : Nat, k ≤ d.l.length ∧ i = .int .i64 k ∧ nx = .int .i64 (nxD d.l k) ∧ Hid (DAt w p d X wr) ∧ ∀ j, j < k → spK d.l j) (fun _ i _ => d.l.length - (intOf i).toNat)
    case atStart => exact ⟨0, by omega, rfl, by rw [HZ.out], H0, fun j h => absurd h (by omega)⟩
    case round =>
      clear H0
      obtain ⟨k, hk, rfl, rfl, HD, hno⟩ := hrel
      have HN := Lib.hid hno
      clear hno
      obtain ⟨⟨x0, x1, x2, xl⟩, -⟩ := HD.out.db.all
      by_cases hlt : k < d.l.length
      · obtain ⟨b, o, hA, hbl, c0, c1, c2⟩ := HD.out.dr.pl.atg hlt
        rw [hA] at x1
        clear hA
        have HB := Lib.hid (HD.out.alloc (.cells #[.int .i64 (sg d.l k).lo, .int .i64 (sg d.l k).hi, .int .i64 (sg d.l k).sh] 44))
        have HX := Lib.hid (nxD_succ d.l k)
        by_cases hs : spK d.l k
        · have HNN := Lib.hid (show ∀ j, j < k + 1 → spK d.l j from fun j h => by
            by_cases e : j = k
            · rw [e]; exact hs
            · exact HN.out j (by omega))
          have h0 : 0 ≤ (sg d.l k).lo := by
            rw [hs.1]
            cases k with
            | zero => rw [nxD_zero]; omega
            | succ k =>
              rw [nxD_succ]
              have hq : ∀ j, j < k + 1 → 0 ≤ (sg d.l j).hi + 1 := fun j => by
                induction j with
                | zero => intro hj; have a := (HN.out 0 hj).1; have b := (HN.out 0 hj).2.1; rw [nxD_zero] at a; omega
                | succ j ih => intro hj; have a := (HN.out (j + 1) hj).1; have b := (HN.out (j + 1) hj).2.1; have c := ih (by omega); rw [nxD_succ] at a; omega
              exact hq k (by omega)
          obtain ⟨h1, h2, h3⟩ := hs
          have hne : ((sg d.l k).lo != nxD d.l k) = false := by simpa using h1
          have h2' : ¬ (sg d.l k).hi < (sg d.l k).lo := by omega
          have h3' : ¬ 65536 ≤ (sg d.l k).hi := by omega
          clear h1
          generalize nxD d.l k = nk at *
          generalize sg d.l k = M at *
          go_wp2
          go_roundw
          case rel => exact ⟨k + 1, by omega, by go_num, by rw [HX.out], HB, HNN.out⟩
          case measure => simp [intOf]; omega
        · have HR := Lib.hid (vaD_cv HRG.out (cvD_no hlt hs))
          by_cases h1 : (sg d.l k).lo = nxD d.l k
          · have hne : ((sg d.l k).lo != nxD d.l k) = false := by simpa using h1
            by_cases h2 : (sg d.l k).hi < (sg d.l k).lo
            · clear h1 hs
              generalize nxD d.l k = nk at *
              generalize sg d.l k = M at *
              go_wp2
              go_ret
              exact ⟨by rw [HVV.out, HR.out]; rfl, HB.out.bel⟩
            · have h3 : 65536 ≤ (sg d.l k).hi := by
                apply Classical.byContradiction
                intro h3
                exact hs ⟨h1, by omega, by omega⟩
              clear h1 hs
              generalize nxD d.l k = nk at *
              generalize sg d.l k = M at *
              go_wp2
              go_ret
              exact ⟨by rw [HVV.out, HR.out]; rfl, HB.out.bel⟩
          · have hne : ((sg d.l k).lo != nxD d.l k) = true := bne_iff_ne.2 h1
            clear h1 hs
            generalize nxD d.l k = nk at *
            generalize sg d.l k = M at *
            go_wp2
            go_ret
            exact ⟨by rw [HVV.out, HR.out]; rfl, HB.out.bel⟩
      · obtain rfl : k = d.l.length := by omega
        have HCV := Lib.hid (cvD_end HN.out)
        by_cases hen : nxD d.l d.l.length = 65536
        · have HC := Lib.hid (show cvD 0 d.l = true by rw [HCV.out]; exact decide_eq_true hen)
          have hne : (nxD d.l d.l.length != 65536) = false := by simpa using hen
          clear hen
          generalize nxD d.l d.l.length = nk at *
          clear hlt hk
          go_wp2
          clear x0 x1 x2 xl hne
          go_loopw [7] (fun i wr => ∃ k : Nat, k ≤ d.l.length ∧ i = .int .i64 k ∧ Hid (DAt w p d X wr) ∧ ∀ j, j < k → slotP d.F.length (sg d.l j).sh) (fun i _ => d.l.length - (intOf i).toNat)
          case atStart => exact ⟨0, by omega, rfl, HD, fun j h => absurd h (by omega)⟩
          case round =>
            clear HD HN
            obtain ⟨k, hk, rfl, HD, hno⟩ := hrel
            have HN := Lib.hid hno
            clear hno
            obtain ⟨⟨x0, x1, x2, xl⟩, -⟩ := HD.out.db.all
            by_cases hlt : k < d.l.length
            · obtain ⟨b, o, hA, hbl, c0, c1, c2⟩ := HD.out.dr.pl.atg hlt
              rw [hA] at x1
              clear hA
              by_cases hs : slotP d.F.length (sg d.l k).sh
              · have HNN := Lib.hid (show ∀ j, j < k + 1 → slotP d.F.length (sg d.l j).sh from fun j h => by
                  by_cases e : j = k
                  · rw [e]; exact hs
                  · exact HN.out j (by omega))
                have h1 : ¬ (sg d.l k).sh < 0 := by have := hs.1; omega
                have h2 : ¬ (d.F.length : Int) ≤ (sg d.l k).sh := by have := hs.2; omega
                clear hs
                generalize sg d.l k = M at *
                go_wp2
                go_roundw
                case rel => exact ⟨k + 1, by omega, by go_num, HD, by have := HNN.out; simpa using this⟩
                case measure => simp [intOf]; omega
              · have HR := Lib.hid (vaD_ms HRG.out HC.out (msD_no hlt hs))
                by_cases h1 : (sg d.l k).sh < 0
                · clear hs
                  generalize sg d.l k = M at *
                  go_wp2
                  go_ret
                  exact ⟨by rw [HVV.out, HR.out]; rfl, HD.out.bel⟩
                · have h2 : (d.F.length : Int) ≤ (sg d.l k).sh := by
                    apply Classical.byContradiction
                    intro h2
                    exact hs ⟨by omega, by omega⟩
                  clear hs
                  generalize sg d.l k = M at *
                  go_wp2
                  go_ret
                  exact ⟨by rw [HVV.out, HR.out]; rfl, HD.out.bel⟩
            · have HM := Lib.hid (msD_iff.2 (fun j hj => HN.out j (by omega) : ∀ j, j < d.l.length → slotP d.F.length (sg d.l j).sh))
              obtain rfl : k = d.l.length := by omega
              clear hlt hk
              go_wp2
              clear x0 x1 x2 xl
              go_loopw [8] (fun i wr => ∃ k : Nat, k ≤ d.l.length ∧ i = .int .i64 k ∧ Hid (DAt w p d X wr) ∧ ∀ j : Nat, j < k → ixS d.l (sg d.l j).sh = (j : Int)) (fun i _ => d.l.length - (intOf i).toNat)
              case atStart => exact ⟨0, by omega, rfl, HD, fun j h => absurd h (by omega)⟩
              case round =>
                clear HD HN
                obtain ⟨k, hk, rfl, HD, hno⟩ := hrel
                have HN := Lib.hid hno
                clear hno
                obtain ⟨⟨x0, x1, x2, xl⟩, -⟩ := HD.out.db.all
                by_cases hlt : k < d.l.length
                · obtain ⟨b, o, hA, hbl, c0, c1, c2⟩ := HD.out.dr.pl.atg hlt
                  have HA := Lib.hid hA
                  have HI := Lib.hid (fun W h => HIX.out p (sg d.l k).sh W h)
                  rw [hA] at x1
                  clear hA
                  have HKA := Lib.hid (fun W (h : Below wr.heap.size wr W) => show IxK p d X b o (d.l.length) X.c (sg d.l k).sh k W from ⟨(HD.out.below h).db.c0, (h.cell (p := ⟨p, 1, none⟩) HD.out.db.lt).trans x1, (HD.out.below h).db.c2, (h.cell (p := ⟨b, o + k * 3 + 2, none⟩) hbl).trans c2⟩)
                  have HB0 := Lib.hid (Below.refl wr.heap.size wr)
                  have HDD := Lib.hid HD.out.drew
                  by_cases he : ixS d.l (sg d.l k).sh = (k : Int)
                  · have HNN := Lib.hid (show ∀ j : Nat, j < k + 1 → ixS d.l (sg d.l j).sh = (j : Int) from fun j h => by
                      by_cases e : j = k
                      · rw [e]; exact he
                      · exact HN.out j (by omega))
                    rw [he] at HI
                    clear he
                    generalize sg d.l k = M at *
                    go_wp2_with fail
                    rw [← HA.out] at x1
                    go_region_held3 (fun W => IxK p d X b o (d.l.length) X.c M.sh k W)
                      ((refine HKA.out _ ?_; repeat' (first | with_reducible exact HB0.out | with_reducible exact HB1.out | with_reducible refine Below.drew ?_)))
                      (first | (go_at_call 25; rw [← HA.out]; (with_reducible refine (HI.out _ HDD.out).mono ?_); rintro e w5 ⟨rfl, hb⟩; have HD5 := Lib.hid (HDD.out.below hb); have HB1 := Lib.hid (((HB0.out.drew).trans hb)); clear hb))
                    go_wp2
                    go_roundw
                    case rel => exact ⟨k + 1, by omega, by go_num, HD5, HNN.out⟩
                    case measure => simp [intOf]; omega
                  · have HR := Lib.hid (vaD_du HRG.out HC.out HM.out (duB_yes (du_ix hlt he)))
                    have hne : (ixS d.l (sg d.l k).sh != (k : Int)) = true := bne_iff_ne.2 he
                    clear he
                    generalize sg d.l k = M at *
                    generalize ixS d.l M.sh = r at *
                    go_wp2_with fail
                    rw [← HA.out] at x1
                    go_region_held3 (fun W => IxK p d X b o (d.l.length) X.c M.sh k W)
                      ((refine HKA.out _ ?_; repeat' (first | with_reducible exact HB0.out | with_reducible exact HB1.out | with_reducible refine Below.drew ?_)))
                      (first | (go_at_call 25; rw [← HA.out]; (with_reducible refine (HI.out _ HDD.out).mono ?_); rintro e w5 ⟨rfl, hb⟩; have HD5 := Lib.hid (HDD.out.below hb); have HB1 := Lib.hid (((HB0.out.drew).trans hb)); clear hb))
                    go_wp2
                    go_ret
                    exact ⟨by rw [HVV.out, HR.out]; rfl, HD5.out.bel⟩
                · have HU := Lib.hid (duB_no (du_ixn (l := d.l) (fun j hj => HN.out j (by omega))))
                  obtain rfl : k = d.l.length := by omega
                  clear hlt hk
                  go_wp2
                  clear x0 x1 x2 xl
                  go_loopw [9] (fun i wr => ∃ k : Nat, k ≤ d.F.length ∧ i = .int .i64 k ∧ Hid (DAt w p d X wr) ∧ ∀ j : Nat, j < k → f1D d.l d.F j) (fun i _ => d.F.length - (intOf i).toNat)
                  case atStart => exact ⟨0, by omega, rfl, HD, fun j h => absurd h (by omega)⟩
                  case round =>
                    clear HD HN
                    obtain ⟨k, hk, rfl, HD, hno⟩ := hrel
                    have HN := Lib.hid hno
                    clear hno
                    obtain ⟨⟨x0, x1, x2, xl⟩, -⟩ := HD.out.db.all
                    by_cases hlt : k < d.F.length
                    · have hltI : (k : Int) < (d.F.length : Int) := by omega
                      obtain ⟨b, o, hA, hbl, c0⟩ := HD.out.dr.fl.atg hlt
                      have HA := Lib.hid hA
                      have HI := Lib.hid (fun W h => HIX.out p (k : Int) W h)
                      have HBD := Lib.hid (fun (h : ¬ f1D d.l d.F k) => vaD_fo HRG.out HC.out HM.out HU.out (foB_no (fun hf => h (hf.1 k hlt))))
                      rw [hA] at x2
                      clear hA
                      by_cases h1 : ig d.F k < -1
                      · have HR := Lib.hid (HBD.out (fun hf => by have := hf.1.1; omega))
                        generalize ig d.F k = y at *
                        go_wp2
                        go_ret
                        exact ⟨by rw [HVV.out, HR.out]; rfl, HD.out.bel⟩
                      · by_cases h2 : (d.F.length : Int) ≤ ig d.F k
                        · have HR := Lib.hid (HBD.out (fun hf => by have := hf.1.2; omega))
                          generalize ig d.F k = y at *
                          go_wp2
                          go_ret
                          exact ⟨by rw [HVV.out, HR.out]; rfl, HD.out.bel⟩
                        · by_cases hh : hasS d.l (k : Int)
                          · by_cases h3 : ig d.F k = -1
                            · have HNN := Lib.hid (show ∀ j : Nat, j < k + 1 → f1D d.l d.F j from fun j h => by
                                by_cases e : j = k
                                · rw [e]; exact ⟨⟨by omega, by omega⟩, fun _ => h3⟩
                                · exact HN.out j (by omega))
                              have hge : 0 ≤ ixS d.l (k : Int) := hh
                              rw [h3] at c0
                              clear h1 h2 hh h3
                              generalize ixS d.l (k : Int) = r at *
                              go_wp2_with fail
                              rw [← HA.out]
                              refine (HI.out _ HD.out).mono ?_
                              rintro e w5 ⟨rfl, hb⟩
                              have HD5 := Lib.hid (HD.out.below hb)
                              have c5 := (hb.cell (p := ⟨b, o + k, none⟩) hbl).trans c0
                              clear hb
                              obtain ⟨⟨y0, y1, y2, yl⟩, -⟩ := HD5.out.db.all
                              rw [HA.out] at y2
                              go_wp2
                              go_roundw
                              case rel => exact ⟨k + 1, by omega, by go_num, HD5, HNN.out⟩
                              case measure => simp [intOf]; omega
                            · have HR := Lib.hid (HBD.out (fun hf => h3 (hf.2 hh)))
                              have hne : (ig d.F k != -1) = true := bne_iff_ne.2 h3
                              have hge : 0 ≤ ixS d.l (k : Int) := hh
                              clear hh h3
                              generalize ixS d.l (k : Int) = r at *
                              generalize ig d.F k = y at *
                              go_wp2_with fail
                              rw [← HA.out]
                              refine (HI.out _ HD.out).mono ?_
                              rintro e w5 ⟨rfl, hb⟩
                              have HD5 := Lib.hid (HD.out.below hb)
                              have c5 := (hb.cell (p := ⟨b, o + k, none⟩) hbl).trans c0
                              clear hb
                              obtain ⟨⟨y0, y1, y2, yl⟩, -⟩ := HD5.out.db.all
                              rw [HA.out] at y2
                              go_wp2
                              go_ret
                              exact ⟨by rw [HVV.out, HR.out]; rfl, HD5.out.bel⟩
                          · have HNN := Lib.hid (show ∀ j : Nat, j < k + 1 → f1D d.l d.F j from fun j h => by
                              by_cases e : j = k
                              · rw [e]; exact ⟨⟨by omega, by omega⟩, fun h3 => absurd h3 hh⟩
                              · exact HN.out j (by omega))
                            rw [(ixS_neg hh).1] at HI
                            clear hh
                            generalize ig d.F k = y at *
                            go_wp2_with fail
                            rw [← HA.out]
                            refine (HI.out _ HD.out).mono ?_
                            rintro e w5 ⟨rfl, hb⟩
                            have HD5 := Lib.hid (HD.out.below hb)
                            clear hb
                            go_wp2
                            go_roundw
                            case rel => exact ⟨k + 1, by omega, by go_num, HD5, HNN.out⟩
                            case measure => simp [intOf]; omega
                    · have HF1 := Lib.hid (show ∀ j : Nat, j < d.F.length → f1D d.l d.F j from fun j hj => HN.out j (by omega))
                      obtain rfl : k = d.F.length := by omega
                      clear hlt hk
                      go_wp2
                      clear x0 x1 x2 xl
                      go_loopw [10] (fun i wr => ∃ k : Nat, k ≤ d.F.length ∧ i = .int .i64 k ∧ Hid (DAt w p d X wr) ∧ ∀ j : Nat, j < k → fwD d.F d.F.length (j : Int) < 0) (fun i _ => d.F.length - (intOf i).toNat)
                      case atStart => exact ⟨0, by omega, rfl, HD, fun j h => absurd h (by omega)⟩
                      case round =>
                        clear HD HN
                        obtain ⟨k, hk, rfl, HD, hno⟩ := hrel
                        have HN := Lib.hid hno
                        clear hno
                        by_cases hlt : k < d.F.length
                        · have hltI : (k : Int) < (d.F.length : Int) := by omega
                          go_wp2
                          go_loopw [11, 12] (fun a c wz => ∃ (m : Nat) (t : Int), m ≤ d.F.length ∧ c = .int .i64 m ∧ a = .int .i64 t ∧ (-1 ≤ t ∧ t < d.F.length) ∧ fwD d.F (d.F.length - m) t = fwD d.F d.F.length (k : Int) ∧ Hid (DAt w p d X wz)) (fun _ c _ => d.F.length - (intOf c).toNat)
                          case atStart => exact ⟨0, (k : Int), by omega, rfl, rfl, ⟨by omega, by omega⟩, by rw [Nat.sub_zero], HD⟩
                          case round =>
                            clear HD
                            obtain ⟨m, t, hm, rfl, rfl, ht, hfw, HD⟩ := hrel
                            have HFW := Lib.hid hfw
                            clear hfw
                            obtain ⟨⟨x0, x1, x2, xl⟩, -⟩ := HD.out.db.all
                            by_cases hml : m < d.F.length
                            · have hmlI : (m : Int) < (d.F.length : Int) := by omega
                              by_cases ht0 : 0 ≤ t
                              · obtain ⟨j, rfl⟩ := Int.eq_ofNat_of_zero_le ht0
                                have hj : j < d.F.length := by omega
                                obtain ⟨b, o, hA, hbl, c0⟩ := HD.out.dr.fl.atg hj
                                rw [hA] at x2
                                clear hA
                                have HNX := Lib.hid (show fwD d.F (d.F.length - (m + 1)) (ig d.F j) = fwD d.F d.F.length (k : Int) from by
                                  rw [← HFW.out, show d.F.length - m = (d.F.length - (m + 1)) + 1 by omega, fwD_pos _ ht0]; rfl)
                                have HYB := Lib.hid (HF1.out j hj).1
                                clear ht
                                generalize ig d.F j = y at *
                                go_wp2
                                go_roundw
                                case rel => exact ⟨m + 1, y, by omega, by go_num, rfl, HYB.out, HNX.out, HD⟩
                                case measure => simp [intOf]; omega
                              · have hlt0 : fwD d.F d.F.length (k : Int) < 0 := by rw [← HFW.out, fwD_neg _ (by omega)]; omega
                                have HNN := Lib.hid (show ∀ j : Nat, j < k + 1 → fwD d.F d.F.length (j : Int) < 0 from fun j h => by
                                  by_cases e : j = k
                                  · rw [e]; exact hlt0
                                  · exact HN.out j (by omega))
                                clear hlt0 ht
                                go_wp2
                                go_roundw
                                case rel => exact ⟨k + 1, by omega, by go_num, HD, HNN.out⟩
                                case measure => simp [intOf]; omega
                            · have hml' : ¬ (m : Int) < (d.F.length : Int) := by omega
                              have hfz : fwD d.F d.F.length (k : Int) = t := by rw [← HFW.out, show d.F.length - m = 0 by omega]; rfl
                              by_cases ht0 : 0 ≤ t
                              · have HR := Lib.hid (vaD_fo HRG.out HC.out HM.out HU.out (foB_no (fun hf => by have := hf.2 k hlt; omega)))
                                clear hfz ht
                                go_wp2
                                go_ret
                                exact ⟨by rw [HVV.out, HR.out]; rfl, HD.out.bel⟩
                              · have HNN := Lib.hid (show ∀ j : Nat, j < k + 1 → fwD d.F d.F.length (j : Int) < 0 from fun j h => by
                                  by_cases e : j = k
                                  · rw [e, hfz]; omega
                                  · exact HN.out j (by omega))
                                clear hfz ht
                                go_wp2
                                go_roundw
                                case rel => exact ⟨k + 1, by omega, by go_num, HD, HNN.out⟩
                                case measure => simp [intOf]; omega
                        · have HR := Lib.hid (vaD_ok HRG.out HC.out HM.out HU.out (foB_yes ⟨HF1.out, fun j hj => HN.out j (by omega)⟩))
                          go_wp2
                          go_ret
                          exact ⟨by rw [HVV.out, HR.out]; rfl, HD.out.bel⟩
        · have HC := Lib.hid (show cvD 0 d.l = false by rw [HCV.out]; exact decide_eq_false hen)
          have hne : (nxD d.l d.l.length != 65536) = true := bne_iff_ne.2 hen
          have HR := Lib.hid (vaD_cv HRG.out HC.out)
          clear hen
          generalize nxD d.l d.l.length = nk at *
          go_wp2
          go_ret
          exact ⟨by rw [HVV.out, HR.out]; rfl, HD.out.bel⟩
  · have HR := Lib.hid (vaD_1 hr)
    rcases rg_not hr with h1 | ⟨h1, h2⟩ | ⟨h1, h2, h3⟩ | ⟨h1, h2, h3, h4⟩ <;> clear hr
    all_goals
      go_enter Try.func24, Try.ntmps24
      go_wp2
      go_ret
      exact ⟨by rw [HVV.out, HR.out]; rfl, H0.out.bel⟩
end Go.Proofs.Ytkecnihgjepfeaa
