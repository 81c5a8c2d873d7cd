/- What is proved here: what DirectoryOwners and DirectoryHomes hold while a change is drawn and applied; Directory of the statements' base makes a valid directory; (plain) who owns a route behind a change; which slots have a home. -/
import Derived.Test.YtfkpkmcpepeaeaaJ15
import Derived.Test.YtfkpkmcpepeaeaaJ16
import Derived.Test.YtfkpkmcpepeaeaaJ07
import Derived.Test.YtfkpkmcpepeaeaaJ12
import Derived.Test.YtfkpkmcpepeaeaaJ14
import Derived.Deep.DeepCutAuto
import Derived.Deep.RegionHeld3
namespace Go.Proofs.Ytfkpkmcpepeaeaa
open Go.RowKit
set_option linter.unusedVariables false

theorem okd_len {d : Dd} (h : vaD d = 0) : d.l.length ≤ 6 := by
  have ho := ok_va h
  have h1 := ho.rg.2.2
  have := pig d.F.length d.l.length (fun v => (sg d.l v).sh.toNat) (fun v hv => by
    have := ho.ms v hv
    show (sg d.l v).sh.toNat < d.F.length
    omega) (fun u v huv hv he => by
    have e1 := ho.ms u (by omega)
    have e2 := ho.ms v hv
    have he' : (sg d.l u).sh.toNat = (sg d.l v).sh.toNat := he
    exact ho.du ⟨u, v, huv, hv, by omega⟩)
  omega
theorem DsAt.other {w W : World} {B g p : Nat} {d : Dd} {X : Dx} (h : DsAt w B g p d X W) {a : Addr} (h1 : a.block ≠ p) (h2 : a.block ≠ g) (h3 : DOff d X a.block) (h4 : w.heap.size ≤ a.block) (v : Value) : DsAt w B g p d X (W.setCell a v) :=
  ⟨h.src.other h2 (by have := h.ne; omega) v, h.db.other h1 v, (h.dr.offp (q := a) h3 v).more (by simp), h.op, h.og, h.ne, h.bel.setCell (p := a) h4 v⟩
/-- .. and the box of the next directory, once it is made. -/
structure DnAt (w : World) (B g p : Nat) (d : Dd) (X : Dx) (oz : Option Nat) (W : World) : Prop where
  ds : DsAt w B g p d X W
  zb : ∀ z, oz = some z → Db10 W z zD10 zDx ∧ z ≠ g ∧ z ≠ p ∧ w.heap.size ≤ z ∧ DOff d X z
section
variable {w W W' : World} {B g p : Nat} {d : Dd} {X : Dx} {oz : Option Nat}
theorem DnAt.start (h : DsAt w B g p d X W) : DnAt w B g p d X none W := ⟨h, by simp⟩
theorem DnAt.below (h : DnAt w B g p d X oz W) (hb : Below W.heap.size W W') : DnAt w B g p d X oz W' := ⟨h.ds.below hb, fun z e => ⟨(h.zb z e).1.up hb, (h.zb z e).2⟩⟩
theorem DnAt.drew (h : DnAt w B g p d X oz W) : DnAt w B g p d X oz W.drew := h.below (Below.refl _ _).drew
theorem DnAt.turn (h : DnAt w B g p d X oz W) (hs : SrcAt W' B g) (hg : W.grownBy W' (some g)) : DnAt w B g p d X oz W' := ⟨h.ds.turn hs hg, fun z e => ⟨(h.zb z e).1.grown hg (h.zb z e).2.1, (h.zb z e).2⟩⟩
theorem DnAt.ax (h : DnAt w B g p d X none W) (t : TypeId) : DnAt w B g p d X (some W.heap.size) (W.alloc (.cells #[.int .i64 0, .slice none 0 0, .slice none 0 0] t)) := by
  refine ⟨h.ds.below ((Below.refl _ _).alloc (Nat.le_refl _) _), fun z e => ?_⟩
  injection e with e
  subst e
  have h1 := h.ds.src.2.1
  have h2 := h.ds.db.lt
  have h3 := h.ds.bel.size
  exact ⟨Db10.zero W t, by omega, by omega, h3, h.ds.dr.offs (Nat.le_refl _)⟩
theorem DnAt.xf {z : Nat} (h : DnAt w B g p d X (some z) W) : Db10 W z zD10 zDx ∧ z ≠ g ∧ z ≠ p := ⟨(h.zb z rfl).1, (h.zb z rfl).2.1, (h.zb z rfl).2.2.1⟩
theorem DnAt.k3 (h : DnAt w B g p d X oz W) {u : World} (hb : Below (p + 1) W u) : K3 p d X u := by
  obtain ⟨⟨x0, x1, x2, xl⟩, -⟩ := h.ds.db.all
  exact ⟨(hb.cell (p := ⟨p, 0, none⟩) (Nat.lt_succ_self p)).trans x0, (hb.cell (p := ⟨p, 1, none⟩) (Nat.lt_succ_self p)).trans x1, (hb.cell (p := ⟨p, 2, none⟩) (Nat.lt_succ_self p)).trans x2⟩
end
/-- .. with the next directory in it. -/
structure DyAt (w : World) (B g p z : Nat) (d : Dd) (X : Dx) (d' : Dd) (Y : Dx) (W : World) : Prop where
  ds : DsAt w B g p d X W
  xb : Db10 W z d' Y
  xr : DR W W.heap.size d' Y
  o1 : DOff d' Y p
  o2 : DOff d' Y g
  zn : z ≠ g ∧ z ≠ p
section
variable {w W W' : World} {B g p : Nat} {d d' : Dd} {X Y : Dx}
theorem dy_1 (h : DnAt w B g p d X none W) (hr : DR W W.heap.size d' Y) (o1 : DOff d' Y p) (o2 : DOff d' Y g) (t : TypeId) : DyAt w B g p W.heap.size d X d' Y (W.alloc (.cells #[.int .i64 d'.vn, .slice Y.A d'.l.length Y.c, .slice Y.A2 d'.F.length Y.c2] t)) := by
  have h1 := h.ds.src.2.1
  have h2 := h.ds.db.lt
  exact ⟨h.ds.below ((Below.refl _ _).alloc (Nat.le_refl _) _), Db10.start W d' Y t, hr.alloc _, o1, o2, by omega, by omega⟩
theorem dy_2 {z : Nat} (h : DnAt w B g p d X (some z) W) (hr : DR W W.heap.size d' Y) (o1 : DOff d' Y p) (o2 : DOff d' Y g) (o3 : DOff d' Y z) : DyAt w B g p z d X d' Y (((W.setCell ⟨z, 0, none⟩ (.int .i64 d'.vn)).setCell ⟨z, 1, none⟩ (.slice Y.A d'.l.length Y.c)).setCell ⟨z, 2, none⟩ (.slice Y.A2 d'.F.length Y.c2)) := by
  obtain ⟨hz, hg, hp, hw, hd⟩ := h.zb z rfl
  exact ⟨((h.ds.other (a := ⟨z, 0, none⟩) hp hg hd hw _).other (a := ⟨z, 1, none⟩) hp hg hd hw _).other (a := ⟨z, 2, none⟩) hp hg hd hw _, hz.set d' Y, (((hr.offp (q := ⟨z, 0, none⟩) o3 _).offp (q := ⟨z, 1, none⟩) o3 _).offp (q := ⟨z, 2, none⟩) o3 _).more (by simp), o1, o2, hg, hp⟩
end
end Go.Proofs.Ytfkpkmcpepeaeaa
namespace Go.Proofs.Ytfkpkmcpepeaeaa
open Go.RowKit
set_option linter.unusedVariables false

/-- A source turned and a valid directory in new lists as a result. -/
def SrDir (B g : Nat) (w : World) (e : Ending) (w' : World) : Prop := ∃ (D : Dd) (X : Dx), e = .returned (dv D X) ∧ vaD D = 0 ∧ DR w' w'.heap.size D X ∧ X.nw w.heap.size ∧ SrcAt w' B g ∧ w.grownBy w' (some g)
/-- A source and a directory in a box of the call's own, its lists new. -/
structure DgAt (w : World) (B g r p : Nat) (d : Dd) (X : Dx) (W : World) : Prop where
  src : SrcAt W B g
  db : Db10 W p d X
  dr : DR W W.heap.size d X
  op : DOff d X p
  nw : X.nw (r + 1)
  ne : g < w.heap.size ∧ w.heap.size ≤ r ∧ r < p
  rb : Db10 W r zD10 zDx
  gr : w.grownBy W (some g)
section
variable {w W W' : World} {B g r p : Nat} {d : Dd} {X : Dx}
theorem DgAt.og (h : DgAt w B g r p d X W) : DOff d X g := h.nw.off (by have := h.ne; omega)
theorem DgAt.below (h : DgAt w B g r p d X W) (hb : Below W.heap.size W W') : DgAt w B g r p d X W' :=
  ⟨h.src.below hb, h.db.up hb, h.dr.up hb, h.op, h.nw, h.ne, h.rb.up hb, only_below h.gr hb⟩
theorem DgAt.turn (h : DgAt w B g r p d X W) (hs : SrcAt W' B g) (hg : W.grownBy W' (some g)) : DgAt w B g r p d X W' :=
  ⟨hs, h.db.grown hg (by have := h.ne; omega), (h.dr.grownO h.og (Nat.le_refl _) hg).more hg.size, h.op, h.nw, h.ne, h.rb.grown hg (by have := h.ne; omega), h.gr.trans hg⟩
/-- Another directory is stored. -/
theorem DgAt.put (h : DgAt w B g r p d X W) {d' : Dd} {Y : Dx} (hr : DR W W.heap.size d' Y) (o1 : DOff d' Y p) (hn : Y.nw (r + 1)) :
    DgAt w B g r p d' Y (((W.setCell ⟨p, 0, none⟩ (.int .i64 d'.vn)).setCell ⟨p, 1, none⟩ (.slice Y.A d'.l.length Y.c)).setCell ⟨p, 2, none⟩ (.slice Y.A2 d'.F.length Y.c2)) := by
  have hne := h.ne
  have hg : p ≠ g := by omega
  have hB : B ≤ p := by have := h.src.1; omega
  have hP : w.heap.size ≤ p := by omega
  exact ⟨((h.src.other (p := ⟨p, 0, none⟩) hg hB _).other (p := ⟨p, 1, none⟩) hg hB _).other (p := ⟨p, 2, none⟩) hg hB _, h.db.set d' Y, (((hr.offp (q := ⟨p, 0, none⟩) o1 _).offp (q := ⟨p, 1, none⟩) o1 _).offp (q := ⟨p, 2, none⟩) o1 _).more (by simp), o1, hn, h.ne, ((h.rb.other (a := ⟨p, 0, none⟩) (show p ≠ r by omega) _).other (a := ⟨p, 1, none⟩) (show p ≠ r by omega) _).other (a := ⟨p, 2, none⟩) (show p ≠ r by omega) _,
    only_set (only_set (only_set h.gr (p := ⟨p, 0, none⟩) (.inr hP) _) (p := ⟨p, 1, none⟩) (.inr hP) _) (p := ⟨p, 2, none⟩) (.inr hP) _⟩
theorem DgAt.other (h : DgAt w B g r p d X W) {a : Addr} (h1 : a.block ≠ p) (h2 : a.block ≠ g) (h3 : DOff d X a.block) (h4 : w.heap.size ≤ a.block) (h5 : a.block ≠ r) (v : Value) : DgAt w B g r p d X (W.setCell a v) :=
  ⟨h.src.other h2 (by have := h.src.1; have := h.ne; omega) v, h.db.other h1 v, (h.dr.offp (q := a) h3 v).more (by simp), h.op, h.nw, h.ne, h.rb.other h5 v, only_set h.gr (p := a) (.inr h4) v⟩
end
/-- .. and the box of the next directory, once it is made. -/
structure DgN (w : World) (B g r p : Nat) (d : Dd) (X : Dx) (oz : Option Nat) (W : World) : Prop where
  ds : DgAt w B g r p d X W
  zb : ∀ z, oz = some z → Db10 W z zD10 zDx ∧ z ≠ g ∧ z ≠ p ∧ w.heap.size ≤ z ∧ DOff d X z ∧ z ≠ r
section
variable {w W W' : World} {B g r p : Nat} {d : Dd} {X : Dx} {oz : Option Nat}
theorem DgN.start (h : DgAt w B g r p d X W) : DgN w B g r p d X none W := ⟨h, by simp⟩
theorem DgN.below (h : DgN w B g r p d X oz W) (hb : Below W.heap.size W W') : DgN w B g r p d X oz W' := ⟨h.ds.below hb, fun z e => ⟨(h.zb z e).1.up hb, (h.zb z e).2⟩⟩
theorem DgN.drew (h : DgN w B g r p d X oz W) : DgN w B g r p d X oz W.drew := h.below (Below.refl _ _).drew
theorem DgN.turn (h : DgN w B g r p d X oz W) (hs : SrcAt W' B g) (hg : W.grownBy W' (some g)) : DgN w B g r p d X oz W' := ⟨h.ds.turn hs hg, fun z e => ⟨(h.zb z e).1.grown hg (h.zb z e).2.1, (h.zb z e).2⟩⟩
theorem DgN.ax (h : DgN w B g r p d X none W) (t : TypeId) : DgN w B g r p d X (some W.heap.size) (W.alloc (.cells #[.int .i64 0, .slice none 0 0, .slice none 0 0] t)) := by
  refine ⟨h.ds.below ((Below.refl _ _).alloc (Nat.le_refl _) _), fun z e => ?_⟩
  injection e with e
  subst e
  have h1 := h.ds.src.2.1
  have h2 := h.ds.db.lt
  have h3 := h.ds.ne
  have h4 := h.ds.gr.size
  exact ⟨Db10.zero W t, by omega, by omega, h4, h.ds.dr.offs (Nat.le_refl _), by omega⟩
theorem DgN.xf {z : Nat} (h : DgN w B g r p d X (some z) W) : Db10 W z zD10 zDx ∧ z ≠ g ∧ z ≠ p := ⟨(h.zb z rfl).1, (h.zb z rfl).2.1, (h.zb z rfl).2.2.1⟩
theorem DgN.k3 (h : DgN w B g r p d X oz W) {u : World} (hb : Below (p + 1) W u) : K3 p d X u := by
  obtain ⟨⟨x0, x1, x2, xl⟩, -⟩ := h.ds.db.all
  exact ⟨(hb.cell (p := ⟨p, 0, none⟩) (Nat.lt_succ_self p)).trans x0, (hb.cell (p := ⟨p, 1, none⟩) (Nat.lt_succ_self p)).trans x1, (hb.cell (p := ⟨p, 2, none⟩) (Nat.lt_succ_self p)).trans x2⟩
end
/-- .. with the next directory in it. -/
structure DgY (w : World) (B g r p z : Nat) (d : Dd) (X : Dx) (d' : Dd) (Y : Dx) (W : World) : Prop where
  ds : DgAt w B g r p d X W
  xb : Db10 W z d' Y
  xr : DR W W.heap.size d' Y
  o1 : DOff d' Y p
  xn : Y.nw (r + 1)
  zn : z ≠ g ∧ z ≠ p
section
variable {w W W' : World} {B g r p : Nat} {d d' : Dd} {X Y : Dx}
theorem dgy_1 (h : DgN w B g r p d X none W) (hr : DR W W.heap.size d' Y) (o1 : DOff d' Y p) (hn : Y.nw (r + 1)) (t : TypeId) : DgY w B g r p W.heap.size d X d' Y (W.alloc (.cells #[.int .i64 d'.vn, .slice Y.A d'.l.length Y.c, .slice Y.A2 d'.F.length Y.c2] t)) := by
  have h1 := h.ds.src.2.1
  have h2 := h.ds.db.lt
  exact ⟨h.ds.below ((Below.refl _ _).alloc (Nat.le_refl _) _), Db10.start W d' Y t, hr.alloc _, o1, hn, by omega, by omega⟩
theorem dgy_2 {z : Nat} (h : DgN w B g r p d X (some z) W) (hr : DR W W.heap.size d' Y) (o1 : DOff d' Y p) (hn : Y.nw (r + 1)) (o3 : DOff d' Y z) : DgY w B g r p z d X d' Y (((W.setCell ⟨z, 0, none⟩ (.int .i64 d'.vn)).setCell ⟨z, 1, none⟩ (.slice Y.A d'.l.length Y.c)).setCell ⟨z, 2, none⟩ (.slice Y.A2 d'.F.length Y.c2)) := by
  obtain ⟨hz, hg, hp, hw, hd, hr5⟩ := h.zb z rfl
  exact ⟨((h.ds.other (a := ⟨z, 0, none⟩) hp hg hd hw hr5 _).other (a := ⟨z, 1, none⟩) hp hg hd hw hr5 _).other (a := ⟨z, 2, none⟩) hp hg hd hw hr5 _, hz.set d' Y, (((hr.offp (q := ⟨z, 0, none⟩) o3 _).offp (q := ⟨z, 1, none⟩) o3 _).offp (q := ⟨z, 2, none⟩) o3 _).more (by simp), o1, hn, hg, hp⟩
end
theorem DgAt.start {w W : World} {B g r : Nat} {d : Dd} {X : Dx} (hs : SrcAt W B g) (hd : DR W W.heap.size d X) (hn : X.nw (r + 1)) (hg : g < w.heap.size) (hr : w.heap.size ≤ r) (hb : Db10 W r zD10 zDx) (hgr : w.grownBy W (some g)) (t : TypeId) :
    DgAt w B g r W.heap.size d X (W.alloc (.cells #[.int .i64 d.vn, .slice X.A d.l.length X.c, .slice X.A2 d.F.length X.c2] t)) :=
  ⟨hs.alloc _, Db10.start W d X t, hd.alloc _, hd.offs (Nat.le_refl _), hn, ⟨hg, hr, hb.lt⟩, hb.alloc _, only_alloc hgr _⟩
/-- The directory as the result. -/
theorem DgAt.out {w W : World} {B g r p : Nat} {d : Dd} {X : Dx} (h : DgAt w B g r p d X W) (hv : vaD d = 0) :
    SrDir B g w (.returned (dv d X)) (((W.setCell ⟨r, 0, none⟩ (.int .i64 d.vn)).setCell ⟨r, 1, none⟩ (.slice X.A d.l.length X.c)).setCell ⟨r, 2, none⟩ (.slice X.A2 d.F.length X.c2)) := by
  have hne := h.ne
  have ho : DOff d X r := h.nw.off (Nat.lt_succ_self r)
  have hB : B ≤ r := by have := h.src.1; omega
  have hg : r ≠ g := by omega
  exact ⟨d, X, rfl, hv, (((h.dr.offp (q := ⟨r, 0, none⟩) ho _).offp (q := ⟨r, 1, none⟩) ho _).offp (q := ⟨r, 2, none⟩) ho _).more (by simp), h.nw.low (by omega),
    ((h.src.other (p := ⟨r, 0, none⟩) hg hB _).other (p := ⟨r, 1, none⟩) hg hB _).other (p := ⟨r, 2, none⟩) hg hB _,
    only_set (only_set (only_set h.gr (p := ⟨r, 0, none⟩) (.inr hne.2.1) _) (p := ⟨r, 1, none⟩) (.inr hne.2.1) _) (p := ⟨r, 2, none⟩) (.inr hne.2.1) _⟩

set_option maxHeartbeats 8000000 in
set_option maxRecDepth 20000 in
theorem directory_any (B g : Nat) (w : World) (h : SrcAt w B g) : Calls Try.prog 13 #[.pointer (some ⟨g, 0, none⟩)] w (SrDir B g w) := by
  have HGW := Lib.hid (show g < w.heap.size from h.2.1)
  have HR0 := Lib.hid (Db10.zero w 25)
  have HS0 := Lib.hid (h.alloc (.cells #[.int .i64 0, .slice none 0 0, .slice none 0 0] 25))
  have HG0 := Lib.hid (only_alloc (World.grownBy.refl w (some g)) (.cells #[.int .i64 0, .slice none 0 0, .slice none 0 0] 25))
  obtain ⟨r, hr⟩ : ∃ r, r = w.heap.size := ⟨_, rfl⟩
  have HRG := Lib.hid (show w.heap.size ≤ r ∧ r ≠ g by have := h.2.1; omega)
  rw [← hr] at HR0
  clear h
  go_enter Try.func13, Try.ntmps13
  go_wp2_with fail
  rw [← hr]
  generalize w.alloc (.cells #[.int .i64 0, .slice none 0 0, .slice none 0 0] 25) = w1 at *
  clear hr
  refine (range_any B g _ HS0.out 1 6 (by omega) (by omega) (by omega)).mono ?_
  rintro e w2 ⟨n, rfl, n1, n2, hs, hg⟩
  have HN := Lib.hid (And.intro n1 n2)
  have HS2 := Lib.hid hs
  have HG2 := Lib.hid (HG0.out.trans hg)
  have HR2 := Lib.hid (HR0.out.grown hg HRG.out.2)
  clear hs hg n1 n2 HS0 HG0 HR0
  go_wp2_with fail
  refine (range_any B g _ HS2.out 1 n (by omega) HN.out.1 (by have := HN.out; omega)).mono ?_
  rintro e w3 ⟨m, rfl, m1, m2, hs, hg⟩
  have HM := Lib.hid (And.intro m1 m2)
  have HS3 := Lib.hid hs
  have HG3 := Lib.hid (HG2.out.trans hg)
  have HR3 := Lib.hid (HR2.out.grown hg HRG.out.2)
  clear hs hg m1 m2 HS2 HG2 HR2
  go_wp2_with fail
  refine (rnew10_any n m _).mono ?_
  rintro e w4 ⟨X, rfl, hnw, hdr, hb⟩
  have hE : nwE10 n m = 0 := by unfold nwE10; rw [if_pos (by have := HN.out; have := HM.out; omega)]
  obtain ⟨N, hN⟩ : ∃ N : Nat, n = N := ⟨n.toNat, by have := HN.out; omega⟩
  obtain ⟨M, hM⟩ : ∃ M : Nat, m = M := ⟨m.toNat, by have := HN.out; have := HM.out; omega⟩
  have HVA := Lib.hid (show vaD (nwD n m) = 0 ∧ (nwD n m).F.length = N from by
    subst hN
    subst hM
    have h1 := HN.out
    have h2 := HM.out
    refine ⟨nw_va (by omega) (by omega) (by omega), ?_⟩
    unfold nwD
    rw [if_pos hE]
    simp)
  rw [hE]
  obtain ⟨D, hD⟩ : ∃ D, D = nwD n m := ⟨_, rfl⟩
  rw [← hD] at HVA hdr ⊢
  clear hD hE hM HM
  subst hN
  have HD0 := Lib.hid (DgAt.start (w := w) (HS3.out.below hb) hdr (hnw.low HR3.out.lt) HGW.out HRG.out.1 (HR3.out.up hb) (only_below HG3.out hb) 25)
  clear hnw hdr hb HS3 HG3 HR3
  go_upto_region 3 with (fail)
  obtain ⟨p, hp⟩ : ∃ p, p = w4.heap.size := ⟨_, rfl⟩
  rw [← hp] at HD0 ⊢
  generalize w4.alloc (.cells #[.int .i64 D.vn, .slice X.A D.l.length X.c, .slice X.A2 D.F.length X.c2] 25) = w5 at *
  clear hp
  go_wp2_with fail
  refine (n_any B g _ HD0.out.src 8 (by omega) (by omega)).mono ?_
  rintro e w6 ⟨j, rfl, j0, j1, hs, hg⟩
  obtain ⟨j, rfl⟩ := Int.eq_ofNat_of_zero_le j0
  have HD1 := Lib.hid (HD0.out.turn hs hg)
  clear hs hg j0 HD0
  go_wp2_with fail
  go_loopw [6] (fun iv wr => ∃ (j : Nat) (D : Dd) (X : Dx), iv = .int .i64 j ∧ j ≤ 8 ∧ Hid (vaD D = 0 ∧ D.F.length = N) ∧ Hid (DgAt w B g r p D X wr)) (fun iv _ => (intOf iv).toNat)
  case atStart => exact ⟨j, D, X, rfl, by omega, HVA, HD1⟩
  case round =>
    clear HVA HD1 j1
    obtain ⟨j, D, X, rfl, hj, HVA, HD⟩ := hrel
    by_cases hj0 : 0 < j
    · have hj0' : (0 : Int) < (j : Int) := by omega
      go_upto_region 6 with (fail)
      have HP0 := Lib.hid (DgN.start HD.out)
      have HP := Lib.hid HP0.out.drew
      have HCE := Lib.hid (fun W (oz : Option Nat) (k : DgN w B g r p D X oz W) => edit_any B g W k.ds.src (N : Int) HN.out.1 (by have := HN.out; omega))
      have HCA := Lib.hid (fun E W (oz : Option Nat) (k : DgN w B g r p D X oz W) => rapply10_any D X E W k.ds.dr (by have := okd_len HVA.out.1; omega))
      go_cut [7, 8] (fun s7 s8 wx => ∃ (z : Nat) (E : Ed) (Y : Dx), s7 = .pointer (some ⟨z, 0, none⟩) ∧ s8 = .int .i64 (apE D E) ∧ Hid (DgY w B g r p z D X (apD D E) Y wx))
      case first =>
        have HSK := Lib.hid (fun W' (hb : Below (p + 1) wr W') => HP0.out.k3 hb)
        have HBZ := Lib.hid (Below.refl (p + 1) wr)
        have hpl := HD.out.db.lt
        have HLF := Lib.hid (And.intro (rfl : D.l.length = D.l.length) (rfl : D.F.length = D.F.length))
        go_region_held3 (fun W => K3 p D X W)
          ((refine HSK.out _ ?_; repeat' (first | with_reducible exact HBZ.out | with_reducible refine dal ?_ ?_ | with_reducible refine dst ?_ ?_ | with_reducible refine ddr ?_ | omega | (simp; omega))))
          (first
            | (go_at_call 14; (first | (have HV := Lib.hid HP.out; with_reducible refine (HCE.out _ _ HV.out).mono ?_) | (have HV := Lib.hid (HP.out.ax 25); with_reducible refine (HCE.out _ _ HV.out).mono ?_) | (have HV := Lib.hid (HP0.out.ax 25).drew; with_reducible refine (HCE.out _ _ HV.out).mono ?_)); rintro e w3 ⟨E, rfl, -, -, -, -, hs, hg⟩; have HP := Lib.hid (HV.out.turn hs hg); have HSK := Lib.hid (fun W' (hb : Below (p + 1) w3 W') => HP.out.k3 hb); have HBZ := Lib.hid (Below.refl (p + 1) w3); have hpl := HP.out.ds.db.lt; clear HV hs hg)
            | (go_at_call 28; (first | (have HV := Lib.hid HP.out; with_reducible refine (HCA.out _ _ _ HV.out).mono ?_) | (have HV := Lib.hid (HP.out.ax 25); with_reducible refine (HCA.out _ _ _ HV.out).mono ?_)); rintro e w4 ⟨Y, rfl, hnw, hdr, hb⟩; have HY := Lib.hid (And.intro hnw hdr); have HVV := HV; have HP := Lib.hid (HV.out.below hb); have HSK := Lib.hid (fun W' (hb : Below (p + 1) w4 W') => HP.out.k3 hb); have HBZ := Lib.hid (Below.refl (p + 1) w4); have hpl := HP.out.ds.db.lt; (try (obtain ⟨⟨b0, b1, b2, bl⟩, g0, g1, g2⟩ := HP.out.xf.1.all; have hxr := HP.out.xf.2)); clear HV hnw hdr hb))
        all_goals
          go_wp2_with fail
          go_meet
          first
          | exact ⟨_, E, Y, rfl, rfl, Lib.hid (dgy_1 HP.out HY.out.2 (HY.out.1.off HVV.out.ds.db.lt) (HY.out.1.low (Nat.lt_of_lt_of_le HVV.out.ds.ne.2.2 (Nat.le_of_lt HVV.out.ds.db.lt))) 25)⟩
          | exact ⟨_, E, Y, rfl, rfl, Lib.hid (dgy_2 HP.out HY.out.2 (HY.out.1.off HVV.out.ds.db.lt) (HY.out.1.low (Nat.lt_of_lt_of_le HVV.out.ds.ne.2.2 (Nat.le_of_lt HVV.out.ds.db.lt))) (HY.out.1.off HVV.out.xf.1.lt))⟩
      case rest =>
        clear HP0 HP HCE HCA HD
        obtain ⟨z, E, Y, rfl, rfl, HY⟩ := hcut
        generalize wc = w7 at *
        have HST := Lib.hid (show ∀ D' x, apE D E = x → apD D E = D' → x = 0 → vaD D' = 0 ∧ D'.F.length = N from fun D' x e1 e2 e3 => by
          subst e1
          subst e2
          have h := apD_ok e3
          exact ⟨h.1, h.2.2.trans HVA.out.2⟩)
        obtain ⟨D', hD'⟩ : ∃ D', apD D E = D' := ⟨_, rfl⟩
        obtain ⟨x, hx⟩ : ∃ x, apE D E = x := ⟨_, rfl⟩
        have HST := Lib.hid (HST.out D' x hx hD')
        rw [hD'] at HY
        rw [hx]
        clear hD' hx
        obtain ⟨⟨x0, x1, x2, xl⟩, f0, f1, f2⟩ := HY.out.ds.db.all
        obtain ⟨⟨z0, z1, z2, zl⟩, -, -, -⟩ := HY.out.xb.all
        obtain ⟨hz1, hz2⟩ := HY.out.zn
        have hz3 : ¬ p = z := fun e => hz2 e.symm
        by_cases hx0 : x = 0
        · subst hx0
          have HV1 := Lib.hid (HST.out rfl)
          have HDS := Lib.hid (HY.out.ds.put HY.out.xr HY.out.o1 HY.out.xn)
          go_wp2
          go_roundw
          case rel => exact ⟨j - 1, D', Y, by rw [show ((j - 1 : Nat) : Int) = (j : Int) - 1 by omega], by omega, HV1, HDS⟩
          case measure => simp [intOf]; omega
        · have hx1 : (x == 0) = false := by simpa using hx0
          have HDS := Lib.hid HY.out.ds
          go_wp2
          go_roundw
          case rel => exact ⟨j - 1, D, X, by rw [show ((j - 1 : Nat) : Int) = (j : Int) - 1 by omega], by omega, HVA, HDS⟩
          case measure => simp [intOf]; omega
    · obtain rfl : j = 0 := by omega
      obtain ⟨⟨x0, x1, x2, xl⟩, f0, f1, f2⟩ := HD.out.db.all
      obtain ⟨⟨r0, r1, r2, rl⟩, rf0, rf1, rf2⟩ := HD.out.rb.all
      have hpr : ¬ p = r := by have := HD.out.ne; omega
      have hrp : ¬ r = p := fun e => hpr e.symm
      have HF := Lib.hid (HD.out.out HVA.out.1)
      go_wp2
      exact bodyPost_ret (v := dv D X) (by simp only [results, Try.results13]; go_simp <;> rfl) rfl HF.out
end Go.Proofs.Ytfkpkmcpepeaeaa
namespace Go.Proofs.Ytfkpkmcpepeaeaa
set_option linter.unusedVariables false

theorem ok_mid {d : Dd} (h : OkD d) {i : Nat} (hi : i < d.l.length) : (∀ z ∈ d.l.take i, z.sh ≠ (sg d.l i).sh) ∧ (∀ z ∈ d.l.drop (i + 1), z.sh ≠ (sg d.l i).sh) := by
  have hnd := nd_du.2 h.du
  rw [sg_split hi] at hnd
  have e2 : (d.l.take i ++ sg d.l i :: d.l.drop (i + 1)).map (·.sh) = (d.l.take i).map (·.sh) ++ (sg d.l i).sh :: (d.l.drop (i + 1)).map (·.sh) := by simp
  rw [e2] at hnd
  have k1 := (List.nodup_cons.1 ((List.perm_middle.nodup_iff).1 hnd)).1
  simp only [List.mem_append, List.mem_map, not_or, not_exists, not_and] at k1
  exact ⟨fun z hz => k1.1 z hz, fun z hz => k1.2 z hz⟩
/-- The parts of a split. -/
theorem sp_parts {d : Dd} {e : Ed} (h : OkD d) (hE : spE d e = 0) : ∃ i : Nat, i < d.l.length ∧ (sg d.l i).sh = e.fr ∧ ((sg d.l i).lo ≤ e.md ∧ e.md < (sg d.l i).hi) ∧ (spD d e).l = d.l.take i ++ ⟨(sg d.l i).lo, e.md, e.fr⟩ :: ⟨e.md + 1, (sg d.l i).hi, e.to⟩ :: d.l.drop (i + 1) ∧ (∀ z ∈ d.l.take i, z.sh ≠ e.fr) ∧ (∀ z ∈ d.l.drop (i + 1), z.sh ≠ e.fr) := by
  obtain ⟨h1, h2, h3, h4⟩ := spE_ok hE
  obtain ⟨i, hi, hil, hs, _⟩ := ixS_pos h1
  rw [hi] at h3 h4
  have hm := ok_mid h hil
  rw [hs] at hm
  exact ⟨i, hil, hs, ⟨h3, h4⟩, by unfold spD spL; rw [hi]; rfl, hm.1, hm.2⟩
/-- The parts of a merge. -/
theorem me_parts {d : Dd} {e : Ed} (h : OkD d) (hE : meE d e = 0) : ∃ f : Nat, f + 1 < d.l.length ∧ (((sg d.l f).sh = e.fr ∧ (sg d.l (f + 1)).sh = e.to) ∨ ((sg d.l f).sh = e.to ∧ (sg d.l (f + 1)).sh = e.fr)) ∧ d.l = d.l.take f ++ sg d.l f :: sg d.l (f + 1) :: d.l.drop (f + 2) ∧ (meD d e).l = d.l.take f ++ ⟨(sg d.l f).lo, (sg d.l (f + 1)).hi, e.to⟩ :: d.l.drop (f + 2) ∧ (∀ z ∈ d.l.take f, z.sh ≠ e.fr) ∧ (∀ z ∈ d.l.drop (f + 2), z.sh ≠ e.fr) ∧ e.to ≠ e.fr := by
  obtain ⟨h1, h2, h3⟩ := meE_ok hE
  obtain ⟨i, hi, hil, hsi, _⟩ := ixS_pos h1
  obtain ⟨j, hj, hjl, hsj, _⟩ := ixS_pos h2
  obtain ⟨f, hf⟩ : ∃ f : Nat, (min (ixS d.l e.fr) (ixS d.l e.to)).toNat = f := ⟨_, rfl⟩
  have hfx : f + 1 < d.l.length ∧ ((f = i ∧ f + 1 = j) ∨ (f = j ∧ f + 1 = i)) := by
    rw [hi, hj] at hf h3
    omega
  have e2 : d.l.drop (f + 1) = sg d.l (f + 1) :: d.l.drop (f + 2) := by rw [sg_get hfx.1]; exact List.drop_eq_getElem_cons hfx.1
  have e3 : d.l.take (f + 1) = d.l.take f ++ [sg d.l f] := by rw [sg_get (by omega : f < d.l.length)]; exact (List.take_append_getElem (by omega)).symm
  have hl : d.l = d.l.take f ++ sg d.l f :: sg d.l (f + 1) :: d.l.drop (f + 2) := by
    rw [← e2]; exact sg_split (by omega)
  have hm := ok_mid h hil
  rw [hsi] at hm
  refine ⟨f, hfx.1, ?_, hl, by unfold meD meL; rw [hf], ?_⟩
  · rcases hfx.2 with ⟨rfl, e4⟩ | ⟨rfl, e4⟩
    · left; rw [e4]; exact ⟨hsi, hsj⟩
    · right; rw [e4]; exact ⟨hsj, hsi⟩
  · rcases hfx.2 with ⟨rfl, e4⟩ | ⟨rfl, e4⟩
    · refine ⟨hm.1, fun z hz => hm.2 z (by rw [e2]; exact List.mem_cons_of_mem _ hz), ?_⟩
      have := hm.2 (sg d.l (f + 1)) (by rw [e2]; exact List.mem_cons_self)
      rw [e4, hsj] at this; exact this
    · rw [← e4] at hm
      refine ⟨fun z hz => hm.1 z (by rw [e3]; exact List.mem_append_left _ hz), hm.2, ?_⟩
      have := hm.1 (sg d.l f) (by rw [e3]; simp)
      rw [hsj] at this; exact this
theorem ok_chn {d : Dd} (h : OkD d) : chN 0 d.l 65536 := (cv_ch 0 d.l).1 ((cvD_iff _).2 ⟨h.sp, h.en⟩)
/-- Who owns a route behind a change. -/
theorem own_move {d : Dd} {e : Ed} (hE : apE d e = 0) {r : Int} (h0 : 0 ≤ r) (h1 : r ≤ 65535) : ownD (apD d e) r = if ownD d r = e.fr ∧ (e.kd = 2 ∨ e.md < r) then e.to else ownD d r := by
  have hN : apN d e = 0 := by
    by_cases hN : apN d e = 0
    · exact hN
    · rw [apE_N hN] at hE; exact hE
  obtain ⟨hv, _, hk, _, _⟩ := apN_ok hN
  have ho := ok_va hv
  have hv2 := (apD_ok hE).1
  rw [ownD_ok hv, ownD_ok hv2]
  obtain ⟨x, hx, hxr, hxo, hxu⟩ := ch_own (ok_chn ho) h0 (by omega : r < 65536)
  obtain ⟨y, hy, hyr, hyo, -⟩ := ch_own (ok_chn (ok_va hv2)) h0 (by omega : r < 65536)
  rw [hxo, hyo]
  rcases hk with hk | hk
  · rw [apE_1 hN hk] at hE
    obtain ⟨i, hil, hs, hmd, hL, hA, hB⟩ := sp_parts ho hE
    have hD : apD d e = spD d e := apD_1 (by rw [apE_1 hN hk]; exact hE) hk
    rw [hD, hL, List.mem_append, List.mem_cons, List.mem_cons] at hy
    rcases hy with hy | rfl | rfl | hy
    · have := hxu y (List.mem_of_mem_take hy) hyr.1 hyr.2
      subst this
      rw [if_neg (fun g => hA _ hy g.1)]
    · have := hxu (sg d.l i) (sg_mem hil) hyr.1 (by have h2 := hyr.2; simp only at h2; omega)
      subst this
      rw [if_neg (fun g => by rcases g.2 with g2 | g2; omega; have h2 := hyr.2; simp only at h2; omega), hs]
    · have hlo := hyr.1
      simp only at hlo
      have := hxu (sg d.l i) (sg_mem hil) (by omega) hyr.2
      subst this
      rw [if_pos ⟨hs, .inr (by omega)⟩]
    · have := hxu y (List.mem_of_mem_drop hy) hyr.1 hyr.2
      subst this
      rw [if_neg (fun g => hB _ hy g.1)]
  · rw [apE_2 hN hk] at hE
    obtain ⟨f, hfl, hsh, hl, hL, hA, hB, hne⟩ := me_parts ho hE
    have hD : apD d e = meD d e := apD_2 (by rw [apE_2 hN hk]; exact hE) hk
    rw [hD, hL, List.mem_append, List.mem_cons] at hy
    rcases hy with hy | rfl | hy
    · have := hxu y (List.mem_of_mem_take hy) hyr.1 hyr.2
      subst this
      rw [if_neg (fun g => hA _ hy g.1)]
    · have hlo := hyr.1
      have hhi := hyr.2
      simp only at hlo hhi
      have hs1 := (ho.sp (f + 1) hfl).1
      rw [nxD_succ] at hs1
      have hx2 : x = sg d.l f ∨ x = sg d.l (f + 1) := by
        by_cases h2 : r ≤ (sg d.l f).hi
        · exact .inl (hxu (sg d.l f) (sg_mem (by omega)) hlo h2).symm
        · exact .inr (hxu (sg d.l (f + 1)) (sg_mem hfl) (by omega) hhi).symm
      have hx3 : x.sh = e.fr ∨ x.sh = e.to := by
        rcases hx2 with rfl | rfl <;> rcases hsh with ⟨a, b⟩ | ⟨a, b⟩
        · exact .inl a
        · exact .inr a
        · exact .inr b
        · exact .inl b
      rcases hx3 with h3 | h3
      · rw [if_pos ⟨h3, .inl hk⟩]
      · rw [if_neg (fun g => hne (by rw [← h3]; exact g.1)), h3]
    · have := hxu y (List.mem_of_mem_drop hy) hyr.1 hyr.2
      subst this
      rw [if_neg (fun g => hB _ hy g.1)]

/-- Which slots have a span behind a change. -/
theorem has_sp {d : Dd} {e : Ed} (h : OkD d) (hE : spE d e = 0) (s : Int) : hasS (spD d e).l s ↔ (hasS d.l s ∨ s = e.to) := by
  obtain ⟨i, hil, hs, hmd, hL, hA, hB⟩ := sp_parts h hE
  rw [hasS_iff, hasS_iff, hL]
  constructor
  · rintro ⟨z, hz, rfl⟩
    rw [List.mem_append, List.mem_cons, List.mem_cons] at hz
    rcases hz with hz | rfl | rfl | hz
    · exact .inl ⟨z, List.mem_of_mem_take hz, rfl⟩
    · exact .inl ⟨sg d.l i, sg_mem hil, hs⟩
    · exact .inr rfl
    · exact .inl ⟨z, List.mem_of_mem_drop hz, rfl⟩
  · rintro (⟨z, hz, rfl⟩ | rfl)
    · rw [sg_split hil, List.mem_append, List.mem_cons] at hz
      rcases hz with hz | rfl | hz
      · exact ⟨z, List.mem_append_left _ hz, rfl⟩
      · exact ⟨_, List.mem_append_right _ List.mem_cons_self, hs.symm⟩
      · exact ⟨z, List.mem_append_right _ (List.mem_cons_of_mem _ (List.mem_cons_of_mem _ hz)), rfl⟩
    · exact ⟨_, List.mem_append_right _ (List.mem_cons_of_mem _ List.mem_cons_self), rfl⟩
theorem has_me {d : Dd} {e : Ed} (h : OkD d) (hE : meE d e = 0) (s : Int) : hasS (meD d e).l s ↔ (hasS d.l s ∧ s ≠ e.fr) := by
  obtain ⟨f, hfl, hsh, hl, hL, hA, hB, hne⟩ := me_parts h hE
  rw [hasS_iff, hasS_iff, hL]
  constructor
  · rintro ⟨z, hz, rfl⟩
    rw [List.mem_append, List.mem_cons] at hz
    rcases hz with hz | rfl | hz
    · exact ⟨⟨z, List.mem_of_mem_take hz, rfl⟩, hA z hz⟩
    · refine ⟨?_, hne⟩
      rcases hsh with ⟨a, b⟩ | ⟨a, b⟩
      · exact ⟨_, sg_mem hfl, b⟩
      · exact ⟨_, sg_mem (by omega : f < d.l.length), a⟩
    · exact ⟨⟨z, List.mem_of_mem_drop hz, rfl⟩, hB z hz⟩
  · rintro ⟨⟨z, hz, rfl⟩, hzf⟩
    rw [hl, List.mem_append, List.mem_cons, List.mem_cons] at hz
    rcases hz with hz | rfl | rfl | hz
    · exact ⟨z, List.mem_append_left _ hz, rfl⟩
    · refine ⟨_, List.mem_append_right _ List.mem_cons_self, ?_⟩
      rcases hsh with ⟨a, b⟩ | ⟨a, b⟩
      · exact absurd a hzf
      · exact a.symm
    · refine ⟨_, List.mem_append_right _ List.mem_cons_self, ?_⟩
      rcases hsh with ⟨a, b⟩ | ⟨a, b⟩
      · exact b.symm
      · exact absurd b hzf
    · exact ⟨z, List.mem_append_right _ (List.mem_cons_of_mem _ hz), rfl⟩

/-- A slot was ever live just if it has a span or is forwarded; forwards lead to slots that were. -/
structure EvI (N : Nat) (v : Nat → Bool) (d : Dd) : Prop where
  va : vaD d = 0
  ln : d.F.length = N
  ev : ∀ j : Nat, j < N → (v j = true ↔ (hasS d.l (j : Int) ∨ ig d.F j ≠ -1))
  tg : ∀ j : Nat, j < N → ig d.F j ≠ -1 → v (ig d.F j).toNat = true
theorem EvI.apply {N : Nat} {v : Nat → Bool} {d : Dd} {e : Ed} (h : EvI N v d) (hE : apE d e = 0) : slotP N e.to ∧ EvI N (fun j => if j = e.to.toNat then true else v j) (apD d e) := by
  have hN : apN d e = 0 := by
    by_cases hN : apN d e = 0
    · exact hN
    · rw [apE_N hN] at hE; exact hE
  obtain ⟨hv, _, hk, hfr, hto⟩ := apN_ok hN
  have ho := ok_va hv
  obtain ⟨hv2, _, hl2⟩ := apD_ok hE
  have hln := h.ln
  have hto' : slotP N e.to := by rw [← hln]; exact hto
  refine ⟨hto', hv2, by rw [hl2]; exact hln, ?_, ?_⟩
  · intro j hj
    rcases hk with hk | hk
    · have hS : spE d e = 0 := by rw [← apE_1 hN hk]; exact hE
      rw [apD_1 hE hk, has_sp ho hS]
      have hF : (spD d e).F = d.F.set e.to.toNat (-1) := rfl
      rw [hF, ig_set (by have := hto; omega)]
      by_cases hje : j = e.to.toNat
      · rw [if_pos hje]
        exact ⟨fun _ => .inl (.inr (by have := hto.1; omega)), fun _ => by simp⟩
      · rw [if_neg hje]
        simp only [if_neg hje]
        rw [h.ev j hj]
        have hne : ¬ (j : Int) = e.to := by have := hto.1; omega
        constructor
        · rintro (a | a)
          · exact .inl (.inl a)
          · exact .inr a
        · rintro ((a | a) | a)
          · exact .inl a
          · exact absurd a hne
          · exact .inr a
    · have hS : meE d e = 0 := by rw [← apE_2 hN hk]; exact hE
      rw [apD_2 hE hk, has_me ho hS]
      have hF : (meD d e).F = d.F.set e.fr.toNat e.to := rfl
      rw [hF, ig_set (by have := hfr; omega)]
      obtain ⟨m1, m2, _⟩ := meE_ok hS
      obtain ⟨f, hfl, hsh, hl, hL, hA, hB, hne⟩ := me_parts ho hS
      by_cases hjf : j = e.fr.toNat
      · have hjt : ¬ j = e.to.toNat := by have := hto.1; have := hfr.1; omega
        rw [if_pos hjf]
        simp only [if_neg hjt]
        rw [h.ev j hj]
        have e1 : (j : Int) = e.fr := by have := hfr.1; omega
        rw [e1]
        exact ⟨fun _ => .inr (by have := hto.1; omega), fun _ => .inl m1⟩
      · rw [if_neg hjf]
        have hne' : ¬ (j : Int) = e.fr := by have := hfr.1; omega
        by_cases hjt : j = e.to.toNat
        · simp only [if_pos hjt]
          have e1 : (j : Int) = e.to := by have := hto.1; omega
          rw [e1]
          exact ⟨fun _ => .inl ⟨m2, hne⟩, fun _ => trivial⟩
        · simp only [if_neg hjt]
          rw [h.ev j hj]
          constructor
          · rintro (a | a)
            · exact .inl ⟨a, hne'⟩
            · exact .inr a
          · rintro (a | a)
            · exact .inl a.1
            · exact .inr a
  · intro j hj
    rcases hk with hk | hk
    · rw [apD_1 hE hk]
      have hF : (spD d e).F = d.F.set e.to.toNat (-1) := rfl
      rw [hF, ig_set (by have := hto; omega)]
      by_cases hje : j = e.to.toNat
      · rw [if_pos hje]
        exact fun g => absurd rfl g
      · rw [if_neg hje]
        intro g
        have := h.tg j hj g
        by_cases q : (ig d.F j).toNat = e.to.toNat
        · simp only [if_pos q]
        · simp only [if_neg q]; exact this
    · rw [apD_2 hE hk]
      have hF : (meD d e).F = d.F.set e.fr.toNat e.to := rfl
      rw [hF, ig_set (by have := hfr; omega)]
      by_cases hje : j = e.fr.toNat
      · rw [if_pos hje]
        intro _
        simp only [if_true]
      · rw [if_neg hje]
        intro g
        have := h.tg j hj g
        by_cases q : (ig d.F j).toNat = e.to.toNat
        · simp only [if_pos q]
        · simp only [if_neg q]; exact this
theorem ev_hm {N : Nat} {v : Nat → Bool} {d : Dd} (h : EvI N v d) : ∀ (k : Nat) (s H : Int), HmI d k s H → 0 ≤ s → ((v s.toNat = true ↔ 0 ≤ H) ∧ (0 ≤ H → hasS d.l H)) := by
  have ho := ok_va h.va
  intro k
  induction k with
  | zero =>
    intro s H hI hs
    by_cases hh : hasS d.l s
    · have := hI.hit hs hh
      subst this
      have hj : H.toNat < N := by have := hI.1.2; have := h.ln; omega
      refine ⟨⟨fun _ => hs, fun _ => (h.ev H.toNat hj).2 (.inl (by rw [Int.toNat_of_nonneg hs]; exact hh))⟩, fun _ => hh⟩
    · obtain ⟨k', hk, _⟩ := hI.next ho hs hh
      omega
  | succ k ih =>
    intro s H hI hs
    have hj : s.toNat < N := by have := hI.1.2; have := h.ln; omega
    by_cases hh : hasS d.l s
    · have := hI.hit hs hh
      subst this
      refine ⟨⟨fun _ => hs, fun _ => (h.ev H.toNat hj).2 (.inl (by rw [Int.toNat_of_nonneg hs]; exact hh))⟩, fun _ => hh⟩
    · obtain ⟨k', hk, hn⟩ := hI.next ho hs hh
      have hk' : k' = k := by omega
      subst hk'
      by_cases hf : ig d.F s.toNat = -1
      · obtain ⟨_, e2⟩ := hn.last (by omega)
        have hv : ¬ v s.toNat = true := fun g => by
          rcases (h.ev s.toNat hj).1 g with a | a
          · rw [Int.toNat_of_nonneg hs] at a; exact hh a
          · exact a hf
        exact ⟨⟨fun g => absurd g hv, fun g => by omega⟩, fun g => by omega⟩
      · have hb := (ho.f1 s.toNat (by rw [h.ln]; exact hj)).1.1
        have i1 := ih _ H hn (by omega)
        have ht := h.tg s.toNat hj hf
        exact ⟨⟨fun _ => i1.1.1 ht, fun _ => (h.ev s.toNat hj).2 (.inr hf)⟩, i1.2⟩
/-- What the law asks of a slot. -/
theorem EvI.home {N : Nat} {v : Nat → Bool} {d : Dd} (h : EvI N v d) {j : Nat} (hj : j < N) : (v j = decide (0 ≤ homD d (j : Int))) ∧ (spnB d (j : Int) = true → homD d (j : Int) = (j : Int)) ∧ (0 ≤ homD d (j : Int) → spnB d (homD d (j : Int)) = true) := by
  have hs : slotP d.F.length (j : Int) := ⟨by omega, by rw [h.ln]; omega⟩
  have hI := HmI.start h.va hs
  have k := ev_hm h _ _ _ hI (by omega)
  refine ⟨?_, fun hb => ?_, fun h0 => ?_⟩
  · rw [Bool.eq_iff_iff]
    simpa using k.1
  · exact hI.hit (by omega) (of_decide_eq_true hb).2
  · exact decide_eq_true ⟨h.va, k.2 h0⟩
theorem EvI.start {n m : Nat} (h1 : 1 ≤ m) (h2 : m ≤ n) (h3 : n ≤ 6) : EvI n (fun j => decide (j < m)) (nwD n m) := by
  have hE : nwE10 n m = 0 := by unfold nwE10; rw [if_pos (by omega)]
  have hD : nwD n m = ⟨1, nwL m m, List.replicate n (-1)⟩ := by unfold nwD; rw [if_pos hE]; simp
  have hig : ∀ j, j < n → ig (nwD n m).F j = -1 := fun j hj => by rw [hD]; simp [ig, List.getD, hj]
  refine ⟨nw_va h1 h2 h3, by rw [hD]; simp, fun j hj => ?_, fun j hj hg => absurd (hig j hj) hg⟩
  rw [hasS_iff, hD]
  simp only [decide_eq_true_eq]
  constructor
  · intro h
    exact .inl ⟨⟨(j : Int) * 65536 / m, ((j : Int) + 1) * 65536 / m - 1, j⟩, List.mem_map.2 ⟨j, List.mem_range.2 h, rfl⟩, rfl⟩
  · rintro (⟨x, hx, hs⟩ | hg)
    · obtain ⟨i, hi, rfl⟩ := List.mem_map.1 hx
      have := List.mem_range.1 hi
      have : (i : Int) = (j : Int) := hs
      omega
    · have := hig j hj
      rw [hD] at this
      exact absurd this hg
end Go.Proofs.Ytfkpkmcpepeaeaa
