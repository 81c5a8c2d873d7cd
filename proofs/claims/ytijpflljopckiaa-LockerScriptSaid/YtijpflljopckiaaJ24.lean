/- What is proved here: shard.clone by a contract; shard.Put by a contract; Shp; Deliver of message and its reference, each by one contract for all arguments; Shq. -/
import Derived.Test.YtijpflljopckiaaJ18
import Derived.Test.YtijpflljopckiaaJ20
import Derived.Test.YtijpflljopckiaaJ23
import Derived.Test.YtijpflljopckiaaJ06
import Derived.Test.YtijpflljopckiaaJ12
import Derived.Test.YtijpflljopckiaaJ02
import Derived.Test.YtijpflljopckiaaJ05
namespace Go.Proofs.Ytijpflljopckiaa
open Go.RowKit
set_option linter.unusedVariables false

/-- A list of messages as a result, in new memory. -/
def LsV (w : World) (l : List Msg) (e : Ending) (w' : World) : Prop := ∃ A c, e = .returned (.slice A l.length c) ∧ Nw w.heap.size A ∧ Ls w' w'.heap.size (.slice A l.length c) l ∧ Below w.heap.size w w'
theorem eclp_elv {w w' : World} {l : List Le} {e : Ending} (h : EClP w l e w') : ElV w l e w' := by
  obtain ⟨v, rfl, ho, hb⟩ := h
  obtain ⟨A, c, rfl⟩ := own_form ho
  exact ⟨A, c, rfl, nwv_of (nwv_own ho (Nat.le_refl _)), El.of_own ho, hb⟩
theorem dclp_dlv {w w' : World} {l : List Du} {e : Ending} (h : DClP w l e w') : DlV w l e w' := by
  obtain ⟨v, rfl, ho, hb⟩ := h
  obtain ⟨A, c, rfl⟩ := own_form ho
  exact ⟨A, c, rfl, nwv_of (nwv_own ho (Nat.le_refl _)), Dl.of_own ho, hb⟩
end Go.Proofs.Ytijpflljopckiaa
namespace Go.Proofs.Ytijpflljopckiaa
open Go.RowKit
set_option linter.unusedVariables false

theorem MBx.put_far {W : World} {p q : Nat} {M : Msg} (h : MBx W q M) (hq : q ≠ p) (S : Sh) (D : Sx) : MBx (set8s W p S D) q M :=
  h.keep (fun o => set8s_far (q := ⟨q, o, none⟩) hq) (fun o => by rw [set8s_eq, World.frozen?_setCells]) (by rw [set8s_size]; exact Nat.le_refl _)
theorem SB8.put_far {W : World} {p q : Nat} {T : Sh} {E : Sx} (h : SB8 W q T E) (hq : q ≠ p) (S : Sh) (D : Sx) : SB8 (set8s W p S D) q T E :=
  h.keep (fun o => set8s_far (q := ⟨q, o, none⟩) hq) (fun o => by rw [set8s_eq, World.frozen?_setCells]) (by rw [set8s_size]; exact Nat.le_refl _)
/-- A shard, a message and a result box. -/
structure SmrAt (w : World) (p q r : Nat) (S : Sh) (D : Sx) (M : Msg) (W : World) : Prop where
  sm : SmAt w p q S D M W
  rs : SB8 W r zS zX
  ne : q < r
theorem SmrAt.below {w W W' : World} {p q r : Nat} {S : Sh} {D : Sx} {M : Msg} (h : SmrAt w p q r S D M W) (hb : Below W.heap.size W W') : SmrAt w p q r S D M W' := ⟨h.sm.below hb, h.rs.up hb, h.ne⟩
theorem SmrAt.put {w W : World} {p q r : Nat} {S T : Sh} {D E : Sx} {M : Msg} (h : SmrAt w p q r S D M W) (hr : SR W W.heap.size T E) (ho : SOff T E p) : SmrAt w p q r T E M (set8s W p T E) :=
  ⟨⟨h.sm.sa.put hr ho, h.sm.mb.put_far (by have := h.sm.lt; omega) T E, h.sm.lt⟩, h.rs.put_far (by have := h.sm.lt; have := h.ne; omega) T E, h.ne⟩
theorem SmrAt.start (w : World) (S : Sh) (D : Sx) (M : Msg) (t u v : TypeId) (hs : SR w w.heap.size S D) : SmrAt w w.heap.size (w.heap.size + 1) (w.heap.size + 1 + 1) S D M (((w.alloc (.cells #[.bool S.lv, .int .i64 S.lo, .int .i64 S.hi, .slice D.A S.cs.length D.c, .int .i64 S.hd, .int .i64 S.sz, .slice D.A2 S.l.length D.c2, .slice D.A3 S.h.length D.c3] t)).alloc (.cells #[.int .i64 M.id, .int .i64 M.rt, .int .i64 M.ep, .int .i64 M.ct, .int .i64 M.gn, .int .i64 M.st, .string M.bd] u)).alloc (.cells #[.bool false, .int .i64 0, .int .i64 0, .slice none 0 0, .int .i64 0, .int .i64 0, .slice none 0 0, .slice none 0 0] v)) := by
  have h := SB8.zero ((w.alloc (.cells #[.bool S.lv, .int .i64 S.lo, .int .i64 S.hi, .slice D.A S.cs.length D.c, .int .i64 S.hd, .int .i64 S.sz, .slice D.A2 S.l.length D.c2, .slice D.A3 S.h.length D.c3] t)).alloc (.cells #[.int .i64 M.id, .int .i64 M.rt, .int .i64 M.ep, .int .i64 M.ct, .int .i64 M.gn, .int .i64 M.st, .string M.bd] u)) v
  rw [show ((w.alloc (.cells #[.bool S.lv, .int .i64 S.lo, .int .i64 S.hi, .slice D.A S.cs.length D.c, .int .i64 S.hd, .int .i64 S.sz, .slice D.A2 S.l.length D.c2, .slice D.A3 S.h.length D.c3] t)).alloc (.cells #[.int .i64 M.id, .int .i64 M.rt, .int .i64 M.ep, .int .i64 M.ct, .int .i64 M.gn, .int .i64 M.st, .string M.bd] u)).heap.size = w.heap.size + 1 + 1 by simp] at h
  exact ⟨(SmAt.start w S D M t u hs).alloc _, h, Nat.lt_succ_self _⟩
theorem SB8.all {W : World} {r : Nat} {T : Sh} {E : Sx} (h : SB8 W r T E) : (W.cell? ⟨r, 0, none⟩ = some (.bool T.lv) ∧ W.cell? ⟨r, 1, none⟩ = some (.int .i64 T.lo) ∧ W.cell? ⟨r, 2, none⟩ = some (.int .i64 T.hi) ∧ W.cell? ⟨r, 3, none⟩ = some (.slice E.A T.cs.length E.c) ∧ W.cell? ⟨r, 4, none⟩ = some (.int .i64 T.hd) ∧ W.cell? ⟨r, 5, none⟩ = some (.int .i64 T.sz) ∧ W.cell? ⟨r, 6, none⟩ = some (.slice E.A2 T.l.length E.c2) ∧ W.cell? ⟨r, 7, none⟩ = some (.slice E.A3 T.h.length E.c3) ∧ r < W.heap.size) ∧ (W.frozen? ⟨r, 0, none⟩ = false ∧ W.frozen? ⟨r, 1, none⟩ = false ∧ W.frozen? ⟨r, 2, none⟩ = false ∧ W.frozen? ⟨r, 3, none⟩ = false ∧ W.frozen? ⟨r, 4, none⟩ = false ∧ W.frozen? ⟨r, 5, none⟩ = false ∧ W.frozen? ⟨r, 6, none⟩ = false ∧ W.frozen? ⟨r, 7, none⟩ = false) := ⟨h.facts, h.free⟩
end Go.Proofs.Ytijpflljopckiaa
/- Plain: what pushes, releases, grants and extensions make of a valid live shard. -/
namespace Go.Proofs.Ytijpflljopckiaa
open Go.RowKit
set_option linter.unusedVariables false

theorem gd_perm {l m : List Msg} (p : l.Perm m) (hg : Gd l) : Gd m :=
  ⟨fun M hM => hg.1 M (p.mem_iff.2 hM), (dup_pair m).2 ((p.pairwise_iff (fun h e => h e.symm)).1 ((dup_pair l).1 hg.2))⟩
theorem gd_cons {M : Msg} {l : List Msg} : Gd (M :: l) ↔ vf M = 0 ∧ Gd l ∧ ∀ N ∈ l, N.id ≠ M.id := by
  constructor
  · intro h
    have p := (dup_pair _).1 h.2
    rw [List.pairwise_cons] at p
    exact ⟨h.1 M (by simp), gd_sub (List.sublist_cons_self M l) h, fun N hN e => p.1 N hN e.symm⟩
  · rintro ⟨h1, h2, h3⟩
    exact gd_front h2 h1 h3
def Vs.push (V : Vs) (M : Msg) : Vs := ⟨V.lo, V.hi, V.n, V.hd, V.L ++ [M], V.l, V.h⟩
def Vs.front (V : Vs) (M : Msg) : Vs := ⟨V.lo, V.hi, V.n, (V.hd + (V.n - 1)) % V.n, M :: V.L, V.l, V.h⟩
noncomputable def Vs.rel (V : Vs) (id : Int) : Vs := ⟨V.lo, V.hi, V.n, V.hd, V.L, rlL V.l V.h id, rlH V.l V.h id⟩
noncomputable def Vs.gr (V : Vs) (x : Le) : Vs := ⟨V.lo, V.hi, V.n, V.hd, V.L, grL V.l V.h x, grH V.l V.h x⟩
/-- A message that a shard may take. -/
structure Fits (V : Vs) (M : Msg) : Prop where
  vf : vf M = 0
  own : V.lo ≤ M.rt ∧ M.rt ≤ V.hi
  room : V.L.length + V.l.length < V.n
  new : ∀ N ∈ V.al, N.id ≠ M.id
section
variable {V : Vs} {M : Msg} {x : Le} {id dl : Int}
theorem push_al (V : Vs) (M : Msg) : (V.push M).al.Perm (M :: V.al) := by
  show ((V.L ++ [M]) ++ V.l.map Le.m).Perm (M :: (V.L ++ V.l.map Le.m))
  rw [List.append_assoc]
  exact List.perm_middle
theorem Vs.Ok.push (k : V.Ok) (f : Fits V M) : (V.push M).Ok := by
  refine ⟨k.n1, k.n2, k.hh, k.tb, k.sp, ?_, gd_perm (push_al V M).symm (gd_cons.2 ⟨f.vf, k.gd, f.new⟩), fun N hN => ?_⟩
  · show (V.L ++ [M]).length + V.l.length ≤ V.n
    have := f.room
    simp; omega
  · rcases List.mem_cons.1 ((push_al V M).mem_iff.1 hN) with e | e
    · rw [e]; exact f.own
    · exact k.own N e
theorem Vs.Ok.front (k : V.Ok) (f : Fits V M) : (V.front M).Ok := by
  refine ⟨k.n1, k.n2, Nat.mod_lt _ (by have := k.n1; omega), k.tb, k.sp, ?_, gd_cons.2 ⟨f.vf, k.gd, f.new⟩, fun N hN => ?_⟩
  · show (M :: V.L).length + V.l.length ≤ V.n
    have := f.room
    simp; omega
  · rcases List.mem_cons.1 hN with e | e
    · rw [e]; exact f.own
    · exact k.own N e
/-- The push into the ring of a valid shard. -/
theorem Vs.Ok.pb (k : V.Ok) (f : Fits V M) : puE (fil V.n V.hd V.L) (V.hd : Int) (V.L.length : Int) M = 0 ∧ pbC (fil V.n V.hd V.L) (V.hd : Int) (V.L.length : Int) M = fil V.n V.hd (V.L ++ [M]) := by
  have hl : V.L.length < V.n := by have := f.room; omega
  have hi : ∀ N ∈ V.L, N.id ≠ M.id := fun N hN => f.new N (List.mem_append_left _ hN)
  exact ⟨puE_fil k.n1 k.n2 k.hh hl k.gL f.vf hi, pbC_fil k.n1 k.n2 k.hh hl k.gL f.vf hi⟩
theorem map_m_perm {l m : List Le} (p : l.Perm m) : (l.map Le.m).Perm (m.map Le.m) := p.map _
/-- A release from a valid shard. -/
theorem Vs.Ok.rel (k : V.Ok) (e : rlE V.l V.h id = 0) : (V.rel id).Ok ∧ V.al.Perm (rlM V.l V.h id :: (V.rel id).al) ∧ (rlM V.l V.h id).id = id ∧ (V.rel id).l.length + 1 = V.l.length ∧ ∃ j, ∃ hj : j < V.l.length, V.l[j].m = rlM V.l V.h id := by
  obtain ⟨t, j, hj, -, e2, hH, hL, hM⟩ := rlE_at e
  have p : V.al.Perm (rlM V.l V.h id :: (V.rel id).al) := by
    show (V.L ++ V.l.map Le.m).Perm (_ :: (V.L ++ (rlL V.l V.h id).map Le.m))
    rw [hL, hM]
    have q : V.l.Perm (V.l[j] :: V.l.eraseIdx j) := by
      conv => lhs; rw [← List.take_append_drop j V.l, List.drop_eq_getElem_cons hj]
      rw [List.eraseIdx_eq_take_drop_succ]
      exact List.perm_middle
    exact ((List.Perm.append_left V.L (map_m_perm q)).trans List.perm_middle)
  have g := gd_perm p k.gd
  have g2 := (gd_cons.1 g)
  have t2 := t.release hj
  rw [e2, ← hL, ← hH] at t2
  have hlen : (rlL V.l V.h id).length + 1 = V.l.length := by rw [hL, List.length_eraseIdx_of_lt hj]; omega
  refine ⟨⟨k.n1, k.n2, k.hh, t2, k.sp, ?_, g2.2.1, fun N hN => k.own N (p.mem_iff.2 (List.mem_cons_of_mem _ hN))⟩, p, by rw [hM]; exact e2, hlen, j, hj, hM.symm⟩
  show V.L.length + (rlL V.l V.h id).length ≤ V.n
  have := k.room
  omega
/-- What was released fits. -/
theorem Vs.Ok.back (k : V.Ok) (e : rlE V.l V.h id = 0) : Fits (V.rel id) (rlM V.l V.h id) := by
  obtain ⟨k2, p, -, hl, -⟩ := k.rel e
  have g2 := gd_cons.1 (gd_perm p k.gd)
  exact ⟨g2.1, k.own _ (p.mem_iff.2 (List.mem_cons_self ..)), by have := k.room; show V.L.length + (V.rel id).l.length < V.n; omega, g2.2.2⟩
/-- A grant to a valid shard. -/
theorem Vs.Ok.gr (k : V.Ok) (f : Fits V x.m) (ok : leOk x) : grE V.l V.h x = 0 ∧ (V.gr x).Ok ∧ (V.gr x).al.Perm (x.m :: V.al) ∧ (V.gr x).l = kIns Le.id V.l x := by
  have hl : V.l.length < 12 := by have := f.room; have := k.n2; omega
  have hf : kFi Le.id V.l x.id < 0 := by
    rw [kFi_none fun b hb e => ?_]; decide
    exact f.new b.m (List.mem_append_right _ (List.mem_map.2 ⟨b, hb, rfl⟩)) e
  have e : grE V.l V.h x = 0 := by
    obtain ⟨h2, h3, h4, h5⟩ := ok
    unfold grE
    rw [if_neg (by simpa using (tbV_iff V.l V.h).2 k.tb), if_neg (by simpa using h2), if_neg h3, if_neg (by omega), if_neg (by omega), if_neg (by omega)]
  have eL : grL V.l V.h x = kIns Le.id V.l x := if_pos e
  have eH : grH V.l V.h x = hpu V.h x.du := if_pos e
  have t := k.tb.grant ok ok.snd hl hf
  have p : (V.gr x).al.Perm (x.m :: V.al) := by
    show (V.L ++ (grL V.l V.h x).map Le.m).Perm (x.m :: (V.L ++ V.l.map Le.m))
    rw [eL]
    exact (List.Perm.append_left V.L (map_m_perm (kIns_perm V.l x))).trans List.perm_middle
  refine ⟨e, ⟨k.n1, k.n2, k.hh, by show TbOk (grL V.l V.h x) (grH V.l V.h x); rw [eL, eH]; exact t, k.sp, ?_, gd_perm p.symm (gd_cons.2 ⟨f.vf, k.gd, f.new⟩), fun N hN => ?_⟩, p, eL⟩
  · show V.L.length + (grL V.l V.h x).length ≤ V.n
    rw [eL, kIns_len]; have := f.room; omega
  · rcases List.mem_cons.1 (p.mem_iff.1 hN) with e | e
    · rw [e]; exact f.own
    · exact k.own N e
end
end Go.Proofs.Ytijpflljopckiaa
namespace Go.Proofs.Ytijpflljopckiaa
open Go.RowKit
set_option linter.unusedVariables false

/-- What Deliver returns. -/
def dlE (M : Msg) : Int := if vf M = 0 then (if M.gn = 65536 then 6 else if M.ct = 8 then 7 else 0) else vf M
def dlM (M : Msg) : Msg := if dlE M = 0 then ⟨M.id, M.rt, M.ep, M.ct + 1, M.gn + 1, M.st, M.bd⟩ else zM

end Go.Proofs.Ytijpflljopckiaa
/- Plain: picking the first messages that are wanted; granting them. -/
namespace Go.Proofs.Ytijpflljopckiaa
open Go.RowKit
set_option linter.unusedVariables false

/-- One step of picking: what was picked, what stays. -/
def pkS (mx : Nat) (p : Msg → Bool) (s : List Msg × List Msg) (M : Msg) : List Msg × List Msg := if s.1.length < mx ∧ p M = true then (s.1 ++ [M], s.2) else (s.1, s.2 ++ [M])
def pk (mx : Nat) (p : Msg → Bool) (L : List Msg) : List Msg × List Msg := L.foldl (pkS mx p) ([], [])
section
variable {mx : Nat} {p : Msg → Bool} {L : List Msg} {M : Msg} {i : Nat}
end
/-- A shard with other messages in its ring. -/
def Vs.ring (V : Vs) (L : List Msg) : Vs := ⟨V.lo, V.hi, V.n, V.hd, L, V.l, V.h⟩
/-- Grants to what was picked. -/
noncomputable def Vs.grs (dl : Int) (V : Vs) (T : List Msg) : Vs := T.foldl (fun V M => V.gr ⟨dlM M, dl⟩) V
/-- What Take makes of a shard. -/
noncomputable def Vs.take (V : Vs) (mx : Nat) (p : Msg → Bool) (dl : Int) : Vs := (V.ring (pk mx p V.L).2).grs dl (pk mx p V.L).1
section
variable {V : Vs} {dl : Int}
end
end Go.Proofs.Ytijpflljopckiaa
