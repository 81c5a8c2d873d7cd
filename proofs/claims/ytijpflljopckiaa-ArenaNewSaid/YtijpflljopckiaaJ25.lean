/- What is proved here: Shp; Deliver of message and its reference, each by one contract for all arguments; Shq; From of the statements' base makes a valid shard; shard.pull of what Take wants, by a contract. -/
import Derived.Test.YtijpflljopckiaaJ12
import Derived.Test.YtijpflljopckiaaJ02
import Derived.Test.YtijpflljopckiaaJ05
import Derived.Test.YtijpflljopckiaaJ22
import Derived.Test.YtijpflljopckiaaJ23
import Derived.Test.YtijpflljopckiaaJ24
import Derived.Test.YtijpflljopckiaaJ13
import Derived.Test.YtijpflljopckiaaJ07
/- Plain: what pushes, releases, grants and extensions make of a valid live shard. -/
namespace Go.Proofs.Ytijpflljopckiaa
open Go.RowKit
set_option linter.unusedVariables false

theorem gd_perm {l m : List Msg} (p : l.Perm m) (hg : Gd l) : Gd m :=
  ⟨fun M hM => hg.1 M (p.mem_iff.2 hM), (dup_pair m).2 ((p.pairwise_iff (fun h e => h e.symm)).1 ((dup_pair l).1 hg.2))⟩
theorem gd_cons {M : Msg} {l : List Msg} : Gd (M :: l) ↔ vf M = 0 ∧ Gd l ∧ ∀ N ∈ l, N.id ≠ M.id := by
  constructor
  · intro h
    have p := (dup_pair _).1 h.2
    rw [List.pairwise_cons] at p
    exact ⟨h.1 M (by simp), gd_sub (List.sublist_cons_self M l) h, fun N hN e => p.1 N hN e.symm⟩
  · rintro ⟨h1, h2, h3⟩
    exact gd_front h2 h1 h3
def Vs.push (V : Vs) (M : Msg) : Vs := ⟨V.lo, V.hi, V.n, V.hd, V.L ++ [M], V.l, V.h⟩
def Vs.front (V : Vs) (M : Msg) : Vs := ⟨V.lo, V.hi, V.n, (V.hd + (V.n - 1)) % V.n, M :: V.L, V.l, V.h⟩
noncomputable def Vs.rel (V : Vs) (id : Int) : Vs := ⟨V.lo, V.hi, V.n, V.hd, V.L, rlL V.l V.h id, rlH V.l V.h id⟩
noncomputable def Vs.gr (V : Vs) (x : Le) : Vs := ⟨V.lo, V.hi, V.n, V.hd, V.L, grL V.l V.h x, grH V.l V.h x⟩
/-- A message that a shard may take. -/
structure Fits (V : Vs) (M : Msg) : Prop where
  vf : vf M = 0
  own : V.lo ≤ M.rt ∧ M.rt ≤ V.hi
  room : V.L.length + V.l.length < V.n
  new : ∀ N ∈ V.al, N.id ≠ M.id
section
variable {V : Vs} {M : Msg} {x : Le} {id dl : Int}
theorem push_al (V : Vs) (M : Msg) : (V.push M).al.Perm (M :: V.al) := by
  show ((V.L ++ [M]) ++ V.l.map Le.m).Perm (M :: (V.L ++ V.l.map Le.m))
  rw [List.append_assoc]
  exact List.perm_middle
theorem Vs.Ok.push (k : V.Ok) (f : Fits V M) : (V.push M).Ok := by
  refine ⟨k.n1, k.n2, k.hh, k.tb, k.sp, ?_, gd_perm (push_al V M).symm (gd_cons.2 ⟨f.vf, k.gd, f.new⟩), fun N hN => ?_⟩
  · show (V.L ++ [M]).length + V.l.length ≤ V.n
    have := f.room
    simp; omega
  · rcases List.mem_cons.1 ((push_al V M).mem_iff.1 hN) with e | e
    · rw [e]; exact f.own
    · exact k.own N e
theorem Vs.Ok.front (k : V.Ok) (f : Fits V M) : (V.front M).Ok := by
  refine ⟨k.n1, k.n2, Nat.mod_lt _ (by have := k.n1; omega), k.tb, k.sp, ?_, gd_cons.2 ⟨f.vf, k.gd, f.new⟩, fun N hN => ?_⟩
  · show (M :: V.L).length + V.l.length ≤ V.n
    have := f.room
    simp; omega
  · rcases List.mem_cons.1 hN with e | e
    · rw [e]; exact f.own
    · exact k.own N e
/-- The push into the ring of a valid shard. -/
theorem Vs.Ok.pb (k : V.Ok) (f : Fits V M) : puE (fil V.n V.hd V.L) (V.hd : Int) (V.L.length : Int) M = 0 ∧ pbC (fil V.n V.hd V.L) (V.hd : Int) (V.L.length : Int) M = fil V.n V.hd (V.L ++ [M]) := by
  have hl : V.L.length < V.n := by have := f.room; omega
  have hi : ∀ N ∈ V.L, N.id ≠ M.id := fun N hN => f.new N (List.mem_append_left _ hN)
  exact ⟨puE_fil k.n1 k.n2 k.hh hl k.gL f.vf hi, pbC_fil k.n1 k.n2 k.hh hl k.gL f.vf hi⟩
theorem map_m_perm {l m : List Le} (p : l.Perm m) : (l.map Le.m).Perm (m.map Le.m) := p.map _
/-- A release from a valid shard. -/
theorem Vs.Ok.rel (k : V.Ok) (e : rlE V.l V.h id = 0) : (V.rel id).Ok ∧ V.al.Perm (rlM V.l V.h id :: (V.rel id).al) ∧ (rlM V.l V.h id).id = id ∧ (V.rel id).l.length + 1 = V.l.length ∧ ∃ j, ∃ hj : j < V.l.length, V.l[j].m = rlM V.l V.h id := by
  obtain ⟨t, j, hj, -, e2, hH, hL, hM⟩ := rlE_at e
  have p : V.al.Perm (rlM V.l V.h id :: (V.rel id).al) := by
    show (V.L ++ V.l.map Le.m).Perm (_ :: (V.L ++ (rlL V.l V.h id).map Le.m))
    rw [hL, hM]
    have q : V.l.Perm (V.l[j] :: V.l.eraseIdx j) := by
      conv => lhs; rw [← List.take_append_drop j V.l, List.drop_eq_getElem_cons hj]
      rw [List.eraseIdx_eq_take_drop_succ]
      exact List.perm_middle
    exact ((List.Perm.append_left V.L (map_m_perm q)).trans List.perm_middle)
  have g := gd_perm p k.gd
  have g2 := (gd_cons.1 g)
  have t2 := t.release hj
  rw [e2, ← hL, ← hH] at t2
  have hlen : (rlL V.l V.h id).length + 1 = V.l.length := by rw [hL, List.length_eraseIdx_of_lt hj]; omega
  refine ⟨⟨k.n1, k.n2, k.hh, t2, k.sp, ?_, g2.2.1, fun N hN => k.own N (p.mem_iff.2 (List.mem_cons_of_mem _ hN))⟩, p, by rw [hM]; exact e2, hlen, j, hj, hM.symm⟩
  show V.L.length + (rlL V.l V.h id).length ≤ V.n
  have := k.room
  omega
/-- What was released fits. -/
theorem Vs.Ok.back (k : V.Ok) (e : rlE V.l V.h id = 0) : Fits (V.rel id) (rlM V.l V.h id) := by
  obtain ⟨k2, p, -, hl, -⟩ := k.rel e
  have g2 := gd_cons.1 (gd_perm p k.gd)
  exact ⟨g2.1, k.own _ (p.mem_iff.2 (List.mem_cons_self ..)), by have := k.room; show V.L.length + (V.rel id).l.length < V.n; omega, g2.2.2⟩
/-- A grant to a valid shard. -/
theorem Vs.Ok.gr (k : V.Ok) (f : Fits V x.m) (ok : leOk x) : grE V.l V.h x = 0 ∧ (V.gr x).Ok ∧ (V.gr x).al.Perm (x.m :: V.al) ∧ (V.gr x).l = kIns Le.id V.l x := by
  have hl : V.l.length < 12 := by have := f.room; have := k.n2; omega
  have hf : kFi Le.id V.l x.id < 0 := by
    rw [kFi_none fun b hb e => ?_]; decide
    exact f.new b.m (List.mem_append_right _ (List.mem_map.2 ⟨b, hb, rfl⟩)) e
  have e : grE V.l V.h x = 0 := by
    obtain ⟨h2, h3, h4, h5⟩ := ok
    unfold grE
    rw [if_neg (by simpa using (tbV_iff V.l V.h).2 k.tb), if_neg (by simpa using h2), if_neg h3, if_neg (by omega), if_neg (by omega), if_neg (by omega)]
  have eL : grL V.l V.h x = kIns Le.id V.l x := if_pos e
  have eH : grH V.l V.h x = hpu V.h x.du := if_pos e
  have t := k.tb.grant ok ok.snd hl hf
  have p : (V.gr x).al.Perm (x.m :: V.al) := by
    show (V.L ++ (grL V.l V.h x).map Le.m).Perm (x.m :: (V.L ++ V.l.map Le.m))
    rw [eL]
    exact (List.Perm.append_left V.L (map_m_perm (kIns_perm V.l x))).trans List.perm_middle
  refine ⟨e, ⟨k.n1, k.n2, k.hh, by show TbOk (grL V.l V.h x) (grH V.l V.h x); rw [eL, eH]; exact t, k.sp, ?_, gd_perm p.symm (gd_cons.2 ⟨f.vf, k.gd, f.new⟩), fun N hN => ?_⟩, p, eL⟩
  · show V.L.length + (grL V.l V.h x).length ≤ V.n
    rw [eL, kIns_len]; have := f.room; omega
  · rcases List.mem_cons.1 (p.mem_iff.1 hN) with e | e
    · rw [e]; exact f.own
    · exact k.own N e
end
end Go.Proofs.Ytijpflljopckiaa
namespace Go.Proofs.Ytijpflljopckiaa
open Go.RowKit
set_option linter.unusedVariables false

/-- What Deliver returns. -/
def dlE (M : Msg) : Int := if vf M = 0 then (if M.gn = 65536 then 6 else if M.ct = 8 then 7 else 0) else vf M
def dlM (M : Msg) : Msg := if dlE M = 0 then ⟨M.id, M.rt, M.ep, M.ct + 1, M.gn + 1, M.st, M.bd⟩ else zM

end Go.Proofs.Ytijpflljopckiaa
/- Plain: picking the first messages that are wanted; granting them. -/
namespace Go.Proofs.Ytijpflljopckiaa
open Go.RowKit
set_option linter.unusedVariables false

/-- One step of picking: what was picked, what stays. -/
def pkS (mx : Nat) (p : Msg → Bool) (s : List Msg × List Msg) (M : Msg) : List Msg × List Msg := if s.1.length < mx ∧ p M = true then (s.1 ++ [M], s.2) else (s.1, s.2 ++ [M])
def pk (mx : Nat) (p : Msg → Bool) (L : List Msg) : List Msg × List Msg := L.foldl (pkS mx p) ([], [])
section
variable {mx : Nat} {p : Msg → Bool} {L : List Msg} {M : Msg} {i : Nat}
end
/-- A shard with other messages in its ring. -/
def Vs.ring (V : Vs) (L : List Msg) : Vs := ⟨V.lo, V.hi, V.n, V.hd, L, V.l, V.h⟩
/-- Grants to what was picked. -/
noncomputable def Vs.grs (dl : Int) (V : Vs) (T : List Msg) : Vs := T.foldl (fun V M => V.gr ⟨dlM M, dl⟩) V
/-- What Take makes of a shard. -/
noncomputable def Vs.take (V : Vs) (mx : Nat) (p : Msg → Bool) (dl : Int) : Vs := (V.ring (pk mx p V.L).2).grs dl (pk mx p V.L).1
section
variable {V : Vs} {dl : Int}
end
end Go.Proofs.Ytijpflljopckiaa
namespace Go.Proofs.Ytijpflljopckiaa
open Go.RowKit
set_option linter.unusedVariables false

/-- A shard that is not live. -/
def frS (k : Nat) : Sh := ⟨false, 0, 0, nwC k, 0, 0, [], []⟩
theorem fr_va {k : Nat} (h1 : 1 ≤ k) (h2 : k ≤ 12) : shV (frS k) = 0 := by
  obtain ⟨e1, e2⟩ := nwC_fil h1 h2 0 (by omega)
  have r : rgV (fil k 0 []) (0 : Int) (0 : Int) = 0 := rgV_fil (l := []) (hd := 0) h1 h2 (by omega) (by simp) gd_nil
  unfold shV
  rw [if_neg (fun g => g (by show rgV (nwC k) 0 0 = 0; rw [e1]; exact r)), if_neg (fun g => g ((tbV_iff [] []).2 TbOk.nil)), if_neg (show ¬ (frS k).lv = true from fun h => by cases h)]
  exact if_neg (show ¬ ((0 : Int) ≠ 0 ∨ (0 : Int) ≠ 0 ∨ (0 : Int) < (0 : Int) + (([] : List Le).length : Int)) by simp)
/-- What a source makes: a valid live shard, or one that is not live. -/
def SrSh (S : Sh) : Prop := (∃ V : Vs, V.Ok ∧ S = V.sh) ∨ ∃ k : Nat, 1 ≤ k ∧ k ≤ 12 ∧ S = frS k
set_option maxHeartbeats 4000000 in
set_option maxRecDepth 20000 in
theorem rfree_any (k : Nat) (w : World) (h1 : 1 ≤ k) (h2 : k ≤ 12) :
    Calls Try.prog 59 #[.int .i64 (k : Int)] w (SE w (frS k) 0) := by
  have R0 := Lib.hid (SB8.zero w 85)
  have B0 := Lib.hid ((Below.refl w.heap.size w).alloc (Nat.le_refl _) (.cells #[.bool false, .int .i64 0, .int .i64 0, .slice none 0 0, .int .i64 0, .int .i64 0, .slice none 0 0, .slice none 0 0] 85))
  have HN := Lib.hid (fun W => rnew4_any (k : Int) W)
  have hnl : (nwC (k : Int)).length = k := by rw [(nwC_fil h1 h2 0 (by omega)).1, fil_len]
  rw [(nwC_fil h1 h2 0 (by omega)).2] at HN
  obtain ⟨S, hS⟩ : ∃ S, S = frS k := ⟨_, rfl⟩
  have HS := Lib.hid (show S = ⟨false, 0, 0, nwC k, 0, 0, [], []⟩ from hS)
  rw [← hS]
  clear hS
  generalize nwC (k : Int) = cs at *
  go_enter Try.func59, Try.ntmps59
  go_wp2_with fail
  obtain ⟨r, hr⟩ : ∃ r, r = w.heap.size := ⟨_, rfl⟩
  have HRW := Lib.hid (show w.heap.size ≤ r by omega)
  rw [← hr]
  rw [← hr] at R0
  clear hr
  generalize (w.alloc (.cells #[.bool false, .int .i64 0, .int .i64 0, .slice none 0 0, .int .i64 0, .int .i64 0, .slice none 0 0, .slice none 0 0] 85)) = w1 at *
  refine (HN.out _).mono ?_
  rintro e w2 ⟨A, c, rfl, hnw, hl, hb⟩
  have B2 := Lib.hid (btr B0.out hb)
  have R2 := Lib.hid (R0.out.up hb)
  have L2 := Lib.hid hl
  have N2 := Lib.hid (nw_low hnw (show r + 1 ≤ _ from R0.out.lt))
  clear hb hl hnw
  rw [hnl] at L2 ⊢
  have HF := Lib.hid (show SE w S 0 (.returned (.tuple #[.agg #[.bool false, .int .i64 0, .int .i64 0, .slice A k c, .int .i64 0, .int .i64 0, .slice none 0 0, .slice none 0 0], .int .i64 0])) ((((((((((w2.setCell ⟨r, 0, none⟩ (.bool false)).setCell ⟨r, 1, none⟩ (.int .i64 0)).setCell ⟨r, 2, none⟩ (.int .i64 0)).setCell ⟨r, 3, none⟩ (.slice A k c)).setCell ⟨r, 4, none⟩ (.int .i64 0)).setCell ⟨r, 5, none⟩ (.int .i64 0)).setCell ⟨r, 6, none⟩ (.slice none 0 0)).setCell ⟨r, 7, none⟩ (.slice none 0 0)).alloc (.cells #[.slice A k c, .int .i64 0, .int .i64 0] 79))) from by
    rw [HS.out]
    subst hnl
    exact ⟨⟨A, c, none, 0, none, 0⟩, rfl, ⟨nw_low N2.out (by have := HRW.out; omega), nw_none, nw_none⟩, (SR.sets (S := ⟨false, 0, 0, cs, 0, 0, [], []⟩) (D := ⟨A, c, none, 0, none, 0⟩) ⟨offb_nw N2.out (Nat.lt_succ_self r), offb_none, offb_none⟩ (Sh.l8 ⟨false, 0, 0, cs, 0, 0, [], []⟩ ⟨A, c, none, 0, none, 0⟩) 0 w2 ⟨L2.out, El.nil, Dl.nil⟩).up ((Below.refl _ _).alloc (Nat.le_refl _) _), bal (set8s_below HRW.out B2.out ⟨false, 0, 0, cs, 0, 0, [], []⟩ ⟨A, c, none, 0, none, 0⟩) _⟩)
  obtain ⟨⟨r0, r1, r2, r3, r4, r5, r6, r7, rl⟩, ⟨g0, g1, g2, g3, g4, g5, g6, g7⟩⟩ := R2.out.all
  clear hnl
  go_wp2
  exact bodyPost_ret (v := .tuple #[.agg #[.bool false, .int .i64 0, .int .i64 0, .slice A k c, .int .i64 0, .int .i64 0, .slice none 0 0, .slice none 0 0], .int .i64 0]) (by simp only [results, Try.results59]; go_simp <;> rfl) rfl HF.out
theorem SrcAt.sets8 {W : World} {B g r : Nat} (h : SrcAt W B g) (hr : r ≠ g) (hB : B ≤ r) (S : Sh) (D : Sx) : SrcAt (set8s W r S D) B g :=
  (((((((h.other (p := ⟨r, 0, none⟩) hr hB _).other (p := ⟨r, 1, none⟩) hr hB _).other (p := ⟨r, 2, none⟩) hr hB _).other (p := ⟨r, 3, none⟩) hr hB _).other (p := ⟨r, 4, none⟩) hr hB _).other (p := ⟨r, 5, none⟩) hr hB _).other (p := ⟨r, 6, none⟩) hr hB _).other (p := ⟨r, 7, none⟩) hr hB _
end Go.Proofs.Ytijpflljopckiaa
namespace Go.Proofs.Ytijpflljopckiaa
open Go.RowKit
set_option linter.unusedVariables false

/-- The boxes of the epoch and of the limit that Take's function value holds. -/
def CapAt (b1 b2 : Nat) (ep lim : Int) (W : World) : Prop := W.cell? ⟨b1, 0, none⟩ = some (.int .i64 ep) ∧ W.cell? ⟨b2, 0, none⟩ = some (.int .i64 lim) ∧ b1 < W.heap.size ∧ b2 < W.heap.size
theorem CapAt.below {b1 b2 : Nat} {ep lim : Int} {w W : World} (h : CapAt b1 b2 ep lim w) (hb : Below w.heap.size w W) : CapAt b1 b2 ep lim W :=
  ⟨(hb.cell (p := ⟨b1, 0, none⟩) h.2.2.1).trans h.1, (hb.cell (p := ⟨b2, 0, none⟩) h.2.2.2).trans h.2.1, Nat.lt_of_lt_of_le h.2.2.1 hb.size, Nat.lt_of_lt_of_le h.2.2.2 hb.size⟩
section
variable {V : Vs} {mx : Nat} {f : Msg → Bool} {i : Nat}
end
theorem Ls.grownR {W W' : World} {B n c : Nat} {A : Option Addr} {l : List Msg} (h : Ls W B (.slice A n c) l) (hB : B ≤ W.heap.size) {row : Option Nat} (hg : W.grownBy W' row) (ho : ∀ q, row = some q → OffB q n A) : Ls W' B (.slice A n c) l := by
  obtain ⟨h1, h2, h3⟩ := h.len
  subst h1
  refine ⟨A, c, rfl, h2, h3, h.rd.1, fun hn => ?_⟩
  obtain ⟨b, o, e, hb, hc⟩ := h.rd.2 hn
  exact ⟨b, o, e, hb, fun j u hu => (hg.cell_far ⟨b, o + j, none⟩ (Nat.lt_of_lt_of_le hb hB) (fun e' => ho b e'.symm hn _ e rfl)).trans (hc j u hu)⟩
theorem El.grownR {W W' : World} {B n c : Nat} {A : Option Addr} {l : List Le} (h : El W B (.slice A n c) l) (hB : B ≤ W.heap.size) {row : Option Nat} (hg : W.grownBy W' row) (ho : ∀ q, row = some q → OffB q n A) : El W' B (.slice A n c) l := by
  obtain ⟨h1, h2, h3⟩ := h.len
  subst h1
  refine ⟨A, c, rfl, h2, h3, h.rd.1, fun hn => ?_⟩
  obtain ⟨b, o, e, hb, hc⟩ := h.rd.2 hn
  exact ⟨b, o, e, hb, fun j u hu => (hg.cell_far ⟨b, o + j, none⟩ (Nat.lt_of_lt_of_le hb hB) (fun e' => ho b e'.symm hn _ e rfl)).trans (hc j u hu)⟩
theorem Dl.grownR {W W' : World} {B n c : Nat} {A : Option Addr} {l : List Du} (h : Dl W B (.slice A n c) l) (hB : B ≤ W.heap.size) {row : Option Nat} (hg : W.grownBy W' row) (ho : ∀ q, row = some q → OffB q n A) : Dl W' B (.slice A n c) l := by
  obtain ⟨h1, h2, h3⟩ := h.len
  subst h1
  refine ⟨A, c, rfl, h2, h3, h.rd.1, fun hn => ?_⟩
  obtain ⟨b, o, e, hb, hc⟩ := h.rd.2 hn
  exact ⟨b, o, e, hb, fun j u hu => (hg.cell_far ⟨b, o + j, none⟩ (Nat.lt_of_lt_of_le hb hB) (fun e' => ho b e'.symm hn _ e rfl)).trans (hc j u hu)⟩
theorem SAt.grown {w W W' : World} {p : Nat} {S : Sh} {D : Sx} (h : SAt w p S D W) {row : Option Nat} (hg : W.grownBy W' row) (ho : ∀ q, row = some q → SOff S D q ∧ p < q) : SAt w p S D W' :=
  ⟨h.s8.grown hg (fun x e => by have := (ho x e).2; omega), ⟨(h.sr.ls.grownR (Nat.le_refl _) hg (fun q e => (ho q e).1.o1)).more hg.size, (h.sr.el.grownR (Nat.le_refl _) hg (fun q e => (ho q e).1.o2)).more hg.size, (h.sr.dl.grownR (Nat.le_refl _) hg (fun q e => (ho q e).1.o3)).more hg.size⟩, h.off,
   h.bel.grown hg h.bel.size (fun x e => by have := (ho x e).2; have := h.old; omega), h.old⟩
/-- The work of pull: the shard, the result box, the list that is gone through, the list that is made. -/
structure PullAt (w : World) (p r B : Nat) (S : Sh) (D : Sx) (A0 : Option Addr) (c0 : Nat) (L : List Msg) (lv : Value) (T : List Msg) (W : World) : Prop where
  sa : SAt w p S D W
  rs : SB8 W r zS zX
  l0 : Ls W B (.slice A0 L.length c0) L
  o0 : OffB p L.length A0
  own : W.ownsRow B 151 7 lv T.length (lcs T)
  dj : ∀ q, lv.ownBlock = some q → SOff S D q
  dr : D.nw (r + 1)
  ne : p < r ∧ r < B ∧ B ≤ W.heap.size
section
variable {w W W' : World} {p r B c0 : Nat} {S : Sh} {D : Sx} {A0 : Option Addr} {L T : List Msg} {lv : Value}
theorem own_below {base e size n : Nat} {v : Value} {xs : List Value} (h : W.ownsRow base e size v n xs) (hb : Below W.heap.size W W') : W'.ownsRow base e size v n xs := by
  refine ⟨h.1, h.2.imp_right fun ⟨g, cap, cur, hv, hg, hh, r⟩ => ⟨g, cap, cur, hv, hg, ?_, r⟩⟩
  rw [← hh]
  exact hb.block g (Array.getElem?_eq_some_iff.1 hh).1
theorem PullAt.below (h : PullAt w p r B S D A0 c0 L lv T W) (hb : Below W.heap.size W W') : PullAt w p r B S D A0 c0 L lv T W' :=
  ⟨h.sa.below hb, h.rs.up hb, h.l0.below (hb.mono h.ne.2.2), h.o0, own_below h.own hb, h.dj, h.dr, h.ne.1, h.ne.2.1, Nat.le_trans h.ne.2.2 hb.size⟩
/-- A message more. -/
theorem PullAt.app {lv' : Value} {T' : List Msg} (h : PullAt w p r B S D A0 c0 L lv T W) (ho : W'.ownsRow B 151 7 lv' T'.length (lcs T')) (hg : W.grownBy W' lv.ownBlock) (hw : ∀ q, lv'.ownBlock = some q → lv.ownBlock = some q ∨ W.heap.size ≤ q) : PullAt w p r B S D A0 c0 L lv' T' W' := by
  have hne := h.ne
  have hlt : ∀ q, lv.ownBlock = some q → B ≤ q := fun q e => (h.own.lt q e).1
  refine ⟨h.sa.grown hg (fun q e => ⟨h.dj q e, by have := hlt q e; omega⟩), h.rs.grown hg (fun q e => by have := hlt q e; omega), h.l0.grownR hne.2.2 hg (fun q e => ?_), h.o0, ho, fun q e => ?_, h.dr, hne.1, hne.2.1, Nat.le_trans hne.2.2 hg.size⟩
  · exact rd_off h.l0.rd (hlt q e)
  · rcases hw q e with e' | e'
    · exact h.dj q e'
    · exact h.sa.sr.offs e'
end
end Go.Proofs.Ytijpflljopckiaa
