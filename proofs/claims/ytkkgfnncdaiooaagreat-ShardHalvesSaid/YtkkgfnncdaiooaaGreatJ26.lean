/- What is proved here: Shq; shard.pull of what Take wants, by a contract; shard.giveBack by contracts; slices.insertionSortCmpFunc of deadlines sorts a row. -/
import Derived.Test.YtkkgfnncdaiooaaGreatJ25
import Derived.Test.YtkkgfnncdaiooaaGreatJ23
import Derived.Test.YtkkgfnncdaiooaaGreatJ09
import Derived.Test.YtkkgfnncdaiooaaGreatJ24
import Derived.Test.YtkkgfnncdaiooaaGreatJ08
import Derived.Test.YtkkgfnncdaiooaaGreatJ22
import Derived.Test.YtkkgfnncdaiooaaGreatJ15
/- Plain: picking the first messages that are wanted; granting them. -/
namespace Go.Proofs.YtkkgfnncdaiooaaGreat
open Go.RowKit
set_option linter.unusedVariables false

def pkS (mx : Nat) (p : Msg → Bool) (s : List Msg × List Msg) (M : Msg) : List Msg × List Msg := if s.1.length < mx ∧ p M = true then (s.1 ++ [M], s.2) else (s.1, s.2 ++ [M])
def pk (mx : Nat) (p : Msg → Bool) (L : List Msg) : List Msg × List Msg := L.foldl (pkS mx p) ([], [])
section
variable {mx : Nat} {p : Msg → Bool} {L : List Msg} {M : Msg} {i : Nat}
theorem pk_snoc : pk mx p (L ++ [M]) = pkS mx p (pk mx p L) M := by unfold pk; rw [List.foldl_append]; rfl
theorem pk_next (hi : i < L.length) : pk mx p (L.take (i + 1)) = pkS mx p (pk mx p (L.take i)) L[i] := by rw [← List.take_append_getElem hi, pk_snoc]
theorem pk_yes (hi : i < L.length) (h1 : (pk mx p (L.take i)).1.length < mx) (h2 : p L[i] = true) : pk mx p (L.take (i + 1)) = ((pk mx p (L.take i)).1 ++ [L[i]], (pk mx p (L.take i)).2) := by rw [pk_next hi]; exact if_pos ⟨h1, h2⟩
theorem pk_no (hi : i < L.length) (h : ¬ ((pk mx p (L.take i)).1.length < mx ∧ p L[i] = true)) : pk mx p (L.take (i + 1)) = ((pk mx p (L.take i)).1, (pk mx p (L.take i)).2 ++ [L[i]]) := by rw [pk_next hi]; exact if_neg h
theorem pk_perm (mx : Nat) (p : Msg → Bool) : ∀ (r L : List Msg), L = r.reverse → ((pk mx p L).1 ++ (pk mx p L).2).Perm L
  | [], L, e => by subst e; exact List.Perm.refl _
  | M :: r, L, e => by
    subst e
    rw [List.reverse_cons, pk_snoc]
    have ih := pk_perm mx p r r.reverse rfl
    unfold pkS
    split
    · rw [List.append_assoc]
      refine (List.perm_middle (a := M) (l₁ := (pk mx p r.reverse).1) (l₂ := (pk mx p r.reverse).2)).trans ?_
      exact (ih.cons M).trans (List.perm_append_singleton _ _).symm
    · rw [← List.append_assoc]
      exact ih.append_right [M]
theorem pk_permL (mx : Nat) (p : Msg → Bool) (L : List Msg) : ((pk mx p L).1 ++ (pk mx p L).2).Perm L := pk_perm mx p L.reverse L (by simp)
theorem pk_subR (mx : Nat) (p : Msg → Bool) : ∀ (r L : List Msg), L = r.reverse → List.Sublist (pk mx p L).2 L ∧ List.Sublist (pk mx p L).1 L ∧ ∀ M ∈ (pk mx p L).1, p M = true
  | [], L, e => by subst e; exact ⟨List.Sublist.refl _, List.Sublist.refl _, fun M h => by cases h⟩
  | M :: r, L, e => by
    subst e
    rw [List.reverse_cons, pk_snoc]
    obtain ⟨h1, h2, h3⟩ := pk_subR mx p r r.reverse rfl
    unfold pkS
    split
    · rename_i hc
      refine ⟨h1.trans (List.sublist_append_left _ _), h2.append (List.Sublist.refl _), fun N hN => ?_⟩
      rcases List.mem_append.1 hN with h | h
      · exact h3 N h
      · rw [List.mem_singleton.1 h]; exact hc.2
    · exact ⟨h1.append (List.Sublist.refl _), h2.trans (List.sublist_append_left _ _), h3⟩
theorem pk_sub (mx : Nat) (p : Msg → Bool) (L : List Msg) : List.Sublist (pk mx p L).2 L ∧ List.Sublist (pk mx p L).1 L ∧ ∀ M ∈ (pk mx p L).1, p M = true := pk_subR mx p L.reverse L (by simp)
def pkL (mx : Nat) (p : Msg → Bool) (L : List Msg) (i : Nat) : List Msg := (pk mx p (L.take i)).2 ++ L.drop i
theorem pkL_zero : pkL mx p L 0 = L := by simp [pkL, pk]
theorem pkL_end : pkL mx p L L.length = (pk mx p L).2 := by simp [pkL]
theorem pkL_sub (i : Nat) : List.Sublist (pkL mx p L i) L := by
  unfold pkL
  conv => rhs; rw [← List.take_append_drop i L]
  exact (pk_sub mx p (L.take i)).1.append (List.Sublist.refl _)
theorem pkL_at (hi : i < L.length) : ∃ h : (pk mx p (L.take i)).2.length < (pkL mx p L i).length, (pkL mx p L i)[(pk mx p (L.take i)).2.length] = L[i] := by
  have hl : (pkL mx p L i).length = (pk mx p (L.take i)).2.length + (L.length - i) := by simp [pkL]
  refine ⟨by omega, ?_⟩
  simp [pkL]
theorem pkL_yes (hi : i < L.length) (h1 : (pk mx p (L.take i)).1.length < mx) (h2 : p L[i] = true) : pkL mx p L (i + 1) = (pkL mx p L i).eraseIdx (pk mx p (L.take i)).2.length := by
  unfold pkL
  rw [pk_yes hi h1 h2, List.drop_eq_getElem_cons hi, List.eraseIdx_append_of_length_le (Nat.le_refl _), Nat.sub_self]
  rfl
theorem pkL_no (hi : i < L.length) (h : ¬ ((pk mx p (L.take i)).1.length < mx ∧ p L[i] = true)) : pkL mx p L (i + 1) = pkL mx p L i := by
  unfold pkL
  rw [pk_no hi h, List.drop_eq_getElem_cons hi, List.append_assoc]
  rfl
end
def Vs.ring (V : Vs) (L : List Msg) : Vs := ⟨V.lo, V.hi, V.n, V.hd, L, V.l, V.h⟩
noncomputable def Vs.grs (dl : Int) (V : Vs) (T : List Msg) : Vs := T.foldl (fun V M => V.gr ⟨dlM M, dl⟩) V
noncomputable def Vs.take (V : Vs) (mx : Nat) (p : Msg → Bool) (dl : Int) : Vs := (V.ring (pk mx p V.L).2).grs dl (pk mx p V.L).1
section
variable {V : Vs} {dl : Int}
theorem grs_snoc (V : Vs) (dl : Int) (T : List Msg) (M : Msg) : V.grs dl (T ++ [M]) = (V.grs dl T).gr ⟨dlM M, dl⟩ := by unfold Vs.grs; rw [List.foldl_append]; rfl
theorem grs_cons (V : Vs) (dl : Int) (T : List Msg) (M : Msg) : V.grs dl (M :: T) = (V.gr ⟨dlM M, dl⟩).grs dl T := rfl
theorem ring_ok (k : V.Ok) {L : List Msg} (hs : List.Sublist L V.L) : (V.ring L).Ok := by
  have hsub : List.Sublist (V.ring L).al V.al := hs.append (List.Sublist.refl _)
  exact ⟨k.n1, k.n2, k.hh, k.tb, k.sp, by have := k.room; have := hs.length_le; show L.length + V.l.length ≤ V.n; omega, gd_sub hsub k.gd, fun M hM => k.own M (hsub.subset hM)⟩
theorem grs_ok : ∀ (T : List Msg) (V : Vs), V.Ok → Gd (T.map dlM ++ V.al) → (∀ M ∈ T, V.lo ≤ (dlM M).rt ∧ (dlM M).rt ≤ V.hi) → V.L.length + V.l.length + T.length ≤ V.n → (∀ M ∈ T, leOk ⟨dlM M, dl⟩) →
    (V.grs dl T).Ok ∧ (V.grs dl T).al.Perm (T.map dlM ++ V.al) ∧ (∀ x, x ∈ (V.grs dl T).l ↔ x ∈ V.l ∨ ∃ M ∈ T, x = ⟨dlM M, dl⟩)
  | [], V, k, _, _, _, _ => ⟨k, List.Perm.refl _, fun x => ⟨.inl, fun h => h.elim id (fun ⟨M, hM, _⟩ => by cases hM)⟩⟩
  | M :: T, V, k, hg, ho, hr, hl => by
    have hg2 := gd_cons.1 (show Gd (dlM M :: (T.map dlM ++ V.al)) from hg)
    simp only [List.length_cons] at hr
    have f : Fits V (⟨dlM M, dl⟩ : Le).m := ⟨hg2.1, ho M (List.mem_cons_self ..), by omega, fun N hN => hg2.2.2 N (List.mem_append_right _ hN)⟩
    obtain ⟨-, k2, p2, e2⟩ := k.gr (x := ⟨dlM M, dl⟩) f (hl M (List.mem_cons_self ..))
    have hlen : (V.gr ⟨dlM M, dl⟩).l.length = V.l.length + 1 := by rw [e2, kIns_len]
    have hp : (T.map dlM ++ (V.gr ⟨dlM M, dl⟩).al).Perm ((M :: T).map dlM ++ V.al) := (p2.append_left _).trans List.perm_middle
    obtain ⟨k3, p3, m3⟩ := grs_ok T (V.gr ⟨dlM M, dl⟩) k2 (gd_perm hp.symm hg) (fun N hN => ho N (List.mem_cons_of_mem _ hN)) (by rw [hlen]; show V.L.length + (V.l.length + 1) + T.length ≤ V.n; omega) (fun N hN => hl N (List.mem_cons_of_mem _ hN))
    rw [grs_cons]
    refine ⟨k3, p3.trans hp, fun x => (m3 x).trans ?_⟩
    rw [e2, (kIns_perm V.l ⟨dlM M, dl⟩).mem_iff, List.mem_cons]
    constructor
    · rintro ((h | h) | ⟨N, hN, h⟩)
      · exact .inr ⟨M, List.mem_cons_self .., h⟩
      · exact .inl h
      · exact .inr ⟨N, List.mem_cons_of_mem _ hN, h⟩
    · rintro (h | ⟨N, hN, h⟩)
      · exact .inl (.inr h)
      · rcases List.mem_cons.1 hN with e | e
        · subst e; exact .inl (.inl h)
        · exact .inr ⟨N, e, h⟩
end
theorem rvF_iff {M : Msg} {ep lim : Int} : rvF M ep lim = true ↔ ep ≤ M.ep ∧ M.ct < lim ∧ M.gn < 65536 := by
  unfold rvF puF spF
  simp only [Bool.and_eq_true, Bool.not_eq_true', decide_eq_false_iff_not, decide_eq_true_eq]
  omega
theorem dl_rv {M : Msg} {ep lim : Int} (hM : vf M = 0) (h : rvF M ep lim = true) (hl : lim ≤ 8) : dlM M = ⟨M.id, M.rt, M.ep, M.ct + 1, M.gn + 1, M.st, M.bd⟩ := by
  obtain ⟨h1, h2, h3⟩ := rvF_iff.1 h
  have e : dlE M = 0 := by unfold dlE; rw [if_pos hM, if_neg (by omega), if_neg (by omega)]
  unfold dlM
  rw [if_pos e]
end Go.Proofs.YtkkgfnncdaiooaaGreat
namespace Go.Proofs.YtkkgfnncdaiooaaGreat
open Go.RowKit
set_option linter.unusedVariables false

def CapAt (b1 b2 : Nat) (ep lim : Int) (W : World) : Prop := W.cell? ⟨b1, 0, none⟩ = some (.int .i64 ep) ∧ W.cell? ⟨b2, 0, none⟩ = some (.int .i64 lim) ∧ b1 < W.heap.size ∧ b2 < W.heap.size
theorem CapAt.below {b1 b2 : Nat} {ep lim : Int} {w W : World} (h : CapAt b1 b2 ep lim w) (hb : Below w.heap.size w W) : CapAt b1 b2 ep lim W :=
  ⟨(hb.cell (p := ⟨b1, 0, none⟩) h.2.2.1).trans h.1, (hb.cell (p := ⟨b2, 0, none⟩) h.2.2.2).trans h.2.1, Nat.lt_of_lt_of_le h.2.2.1 hb.size, Nat.lt_of_lt_of_le h.2.2.2 hb.size⟩
set_option maxHeartbeats 1000000 in
theorem take1_any (b1 b2 : Nat) (ep lim : Int) (M : Msg) (w : World) (h : CapAt b1 b2 ep lim w) :
    Calls Tryz.prog 41 #[M.v, .pointer (some ⟨b1, 0, none⟩), .pointer (some ⟨b2, 0, none⟩)] w fun e w' => e = .returned (.bool (rvF M ep lim)) ∧ Below w.heap.size w w' := by
  have HB := Lib.hid ((Below.refl w.heap.size w).alloc (Nat.le_refl _) (.cells M.cs 57))
  have HR := Lib.hid (fun W => receivable_any M ep lim W)
  obtain ⟨h1, h2, h3, h4⟩ := h
  generalize rvF M ep lim = b at *
  go_enter Tryz.func41, Tryz.ntmps41
  go_wp2_with fail
  refine (HR.out _).mono ?_
  rintro e w1 ⟨rfl, hb⟩
  have HB1 := Lib.hid (HB.out.trans (hb.mono HB.out.size))
  clear hb
  go_wp2
  go_ret
  exact ⟨rfl, HB1.out⟩
section
variable {V : Vs} {mx : Nat} {f : Msg → Bool} {i : Nat}
theorem pull_rm (k : V.Ok) (hi : i < V.L.length) (h1 : (pk mx f (V.L.take i)).1.length < mx) (h2 : f V.L[i] = true) {S S' : Sh} (hS : S = (V.ring (pkL mx f V.L i)).sh) (hS' : S' = (V.ring (pkL mx f V.L (i + 1))).sh) :
    S' = ⟨S.lv, S.lo, S.hi, rmC S.cs S.hd S.sz V.L[i].id, ifE (rmE S.cs S.hd S.sz V.L[i].id) S.hd, ifE (rmE S.cs S.hd S.sz V.L[i].id) (S.sz - 1), S.l, S.h⟩ := by
  subst hS hS'
  obtain ⟨hj, ej⟩ := pkL_at (mx := mx) (p := f) hi
  have hs := pkL_sub (mx := mx) (p := f) (L := V.L) i
  have hg := gd_sub hs k.gL
  have hl : (pkL mx f V.L i).length ≤ V.n := by have := hs.length_le; have := k.lenL; omega
  obtain ⟨e1, e2, -⟩ := rm_fil k.n1 k.n2 k.hh hl hg hj
  rw [ej] at e1 e2
  rw [← pkL_yes hi h1 h2] at e2
  have el : ((pkL mx f V.L (i + 1)).length : Int) = ((pkL mx f V.L i).length : Int) - 1 := by
    rw [pkL_yes hi h1 h2, List.length_eraseIdx_of_lt hj]; omega
  show Sh.mk true V.lo V.hi (fil V.n V.hd (pkL mx f V.L (i + 1))) V.hd (pkL mx f V.L (i + 1)).length V.l V.h = Sh.mk true V.lo V.hi (rmC (fil V.n V.hd (pkL mx f V.L i)) V.hd (pkL mx f V.L i).length V.L[i].id) (ifE (rmE (fil V.n V.hd (pkL mx f V.L i)) V.hd (pkL mx f V.L i).length V.L[i].id) V.hd) (ifE (rmE (fil V.n V.hd (pkL mx f V.L i)) V.hd (pkL mx f V.L i).length V.L[i].id) ((pkL mx f V.L i).length - 1)) V.l V.h
  rw [e1, e2, el]
  rfl
end
def SLs (w : World) (S : Sh) (l : List Msg) (e : Ending) (w' : World) : Prop := ∃ D A c, e = .returned (.tuple #[sv S D, .slice A l.length c]) ∧ D.nw w.heap.size ∧ SR w' w'.heap.size S D ∧ Nw w.heap.size A ∧ Ls w' w'.heap.size (.slice A l.length c) l ∧ Below w.heap.size w w'
theorem Ls.grownR {W W' : World} {B n c : Nat} {A : Option Addr} {l : List Msg} (h : Ls W B (.slice A n c) l) (hB : B ≤ W.heap.size) {row : Option Nat} (hg : W.grownBy W' row) (ho : ∀ q, row = some q → OffB q n A) : Ls W' B (.slice A n c) l := by
  obtain ⟨h1, h2, h3⟩ := h.len
  subst h1
  refine ⟨A, c, rfl, h2, h3, h.rd.1, fun hn => ?_⟩
  obtain ⟨b, o, e, hb, hc⟩ := h.rd.2 hn
  exact ⟨b, o, e, hb, fun j u hu => (hg.cell_far ⟨b, o + j, none⟩ (Nat.lt_of_lt_of_le hb hB) (fun e' => ho b e'.symm hn _ e rfl)).trans (hc j u hu)⟩
theorem El.grownR {W W' : World} {B n c : Nat} {A : Option Addr} {l : List Le} (h : El W B (.slice A n c) l) (hB : B ≤ W.heap.size) {row : Option Nat} (hg : W.grownBy W' row) (ho : ∀ q, row = some q → OffB q n A) : El W' B (.slice A n c) l := by
  obtain ⟨h1, h2, h3⟩ := h.len
  subst h1
  refine ⟨A, c, rfl, h2, h3, h.rd.1, fun hn => ?_⟩
  obtain ⟨b, o, e, hb, hc⟩ := h.rd.2 hn
  exact ⟨b, o, e, hb, fun j u hu => (hg.cell_far ⟨b, o + j, none⟩ (Nat.lt_of_lt_of_le hb hB) (fun e' => ho b e'.symm hn _ e rfl)).trans (hc j u hu)⟩
theorem Dl.grownR {W W' : World} {B n c : Nat} {A : Option Addr} {l : List Du} (h : Dl W B (.slice A n c) l) (hB : B ≤ W.heap.size) {row : Option Nat} (hg : W.grownBy W' row) (ho : ∀ q, row = some q → OffB q n A) : Dl W' B (.slice A n c) l := by
  obtain ⟨h1, h2, h3⟩ := h.len
  subst h1
  refine ⟨A, c, rfl, h2, h3, h.rd.1, fun hn => ?_⟩
  obtain ⟨b, o, e, hb, hc⟩ := h.rd.2 hn
  exact ⟨b, o, e, hb, fun j u hu => (hg.cell_far ⟨b, o + j, none⟩ (Nat.lt_of_lt_of_le hb hB) (fun e' => ho b e'.symm hn _ e rfl)).trans (hc j u hu)⟩
theorem SAt.grown {w W W' : World} {p : Nat} {S : Sh} {D : Sx} (h : SAt w p S D W) {row : Option Nat} (hg : W.grownBy W' row) (ho : ∀ q, row = some q → SOff S D q ∧ p < q) : SAt w p S D W' :=
  ⟨h.s8.grown hg (fun x e => by have := (ho x e).2; omega), ⟨(h.sr.ls.grownR (Nat.le_refl _) hg (fun q e => (ho q e).1.o1)).more hg.size, (h.sr.el.grownR (Nat.le_refl _) hg (fun q e => (ho q e).1.o2)).more hg.size, (h.sr.dl.grownR (Nat.le_refl _) hg (fun q e => (ho q e).1.o3)).more hg.size⟩, h.off,
   h.bel.grown hg h.bel.size (fun x e => by have := (ho x e).2; have := h.old; omega), h.old⟩
structure PullAt (w : World) (p r B : Nat) (S : Sh) (D : Sx) (A0 : Option Addr) (c0 : Nat) (L : List Msg) (lv : Value) (T : List Msg) (W : World) : Prop where
  sa : SAt w p S D W
  rs : SB8 W r zS zX
  l0 : Ls W B (.slice A0 L.length c0) L
  o0 : OffB p L.length A0
  own : W.ownsRow B 57 7 lv T.length (lcs T)
  dj : ∀ q, lv.ownBlock = some q → SOff S D q
  dr : D.nw (r + 1)
  ne : p < r ∧ r < B ∧ B ≤ W.heap.size
section
variable {w W W' : World} {p r B c0 : Nat} {S : Sh} {D : Sx} {A0 : Option Addr} {L T : List Msg} {lv : Value}
theorem own_below {base e size n : Nat} {v : Value} {xs : List Value} (h : W.ownsRow base e size v n xs) (hb : Below W.heap.size W W') : W'.ownsRow base e size v n xs := by
  refine ⟨h.1, h.2.imp_right fun ⟨g, cap, cur, hv, hg, hh, r⟩ => ⟨g, cap, cur, hv, hg, ?_, r⟩⟩
  rw [← hh]
  exact hb.block g (Array.getElem?_eq_some_iff.1 hh).1
theorem own_set {base e size n : Nat} {v : Value} {xs : List Value} (h : W.ownsRow base e size v n xs) {q : Addr} (hq : q.block < base) (u : Value) : (W.setCell q u).ownsRow base e size v n xs := by
  refine ⟨h.1, h.2.imp_right fun ⟨g, cap, cur, hv, hg, hh, r⟩ => ⟨g, cap, cur, hv, hg, ?_, r⟩⟩
  rw [← hh]
  exact Below.heap_setCell W q u g (by omega)
theorem own_sets {base e size n : Nat} {v : Value} {xs : List Value} {r : Nat} (hr : r < base) : ∀ (vs : List Value) (m : Nat) (W : World), W.ownsRow base e size v n xs → (W.setCells r m vs).ownsRow base e size v n xs
  | [], _, _, h => h
  | u :: vs, m, W, h => own_sets hr vs (m + 1) _ (own_set h (q := ⟨r, m, none⟩) hr u)
theorem PullAt.below (h : PullAt w p r B S D A0 c0 L lv T W) (hb : Below W.heap.size W W') : PullAt w p r B S D A0 c0 L lv T W' :=
  ⟨h.sa.below hb, h.rs.up hb, h.l0.below (hb.mono h.ne.2.2), h.o0, own_below h.own hb, h.dj, h.dr, h.ne.1, h.ne.2.1, Nat.le_trans h.ne.2.2 hb.size⟩
theorem PullAt.setRing {A : Option Addr} {c : Nat} {cs : List Msg} (h : PullAt w p r B S D A0 c0 L lv T W) (hd sz : Int) (hl : Ls W W.heap.size (.slice A cs.length c) cs) {lo : Nat} (hn : Nw lo A) (hlo : B ≤ lo) (hrow : ∀ q, lv.ownBlock = some q → q < lo) :
    PullAt w p r B ⟨S.lv, S.lo, S.hi, cs, hd, sz, S.l, S.h⟩ ⟨A, c, D.A2, D.c2, D.A3, D.c3⟩ A0 c0 L lv T (((W.setCell ⟨p, 3, none⟩ (.slice A cs.length c)).setCell ⟨p, 4, none⟩ (.int .i64 hd)).setCell ⟨p, 5, none⟩ (.int .i64 sz)) := by
  have hne := h.ne
  exact ⟨h.sa.setRing hd sz hl (offb_nw hn (by omega)), ((h.rs.other (q := ⟨p, 3, none⟩) (show p ≠ r by omega) _).other (q := ⟨p, 4, none⟩) (show p ≠ r by omega) _).other (q := ⟨p, 5, none⟩) (show p ≠ r by omega) _,
    ((h.l0.offp (p := ⟨p, 3, none⟩) h.o0 _).offp (p := ⟨p, 4, none⟩) h.o0 _).offp (p := ⟨p, 5, none⟩) h.o0 _, h.o0,
    own_set (own_set (own_set h.own (q := ⟨p, 3, none⟩) (show p < B by omega) _) (q := ⟨p, 4, none⟩) (show p < B by omega) _) (q := ⟨p, 5, none⟩) (show p < B by omega) _,
    fun q e => ⟨offb_nw hn (hrow q e), (h.dj q e).o2, (h.dj q e).o3⟩, ⟨nw_low hn (by omega), h.dr.n2, h.dr.n3⟩, hne.1, hne.2.1, by simpa using hne.2.2⟩
theorem PullAt.app {lv' : Value} {T' : List Msg} (h : PullAt w p r B S D A0 c0 L lv T W) (ho : W'.ownsRow B 57 7 lv' T'.length (lcs T')) (hg : W.grownBy W' lv.ownBlock) (hw : ∀ q, lv'.ownBlock = some q → lv.ownBlock = some q ∨ W.heap.size ≤ q) : PullAt w p r B S D A0 c0 L lv' T' W' := by
  have hne := h.ne
  have hlt : ∀ q, lv.ownBlock = some q → B ≤ q := fun q e => (h.own.lt q e).1
  refine ⟨h.sa.grown hg (fun q e => ⟨h.dj q e, by have := hlt q e; omega⟩), h.rs.grown hg (fun q e => by have := hlt q e; omega), h.l0.grownR hne.2.2 hg (fun q e => ?_), h.o0, ho, fun q e => ?_, h.dr, hne.1, hne.2.1, Nat.le_trans hne.2.2 hg.size⟩
  · exact rd_off h.l0.rd (hlt q e)
  · rcases hw q e with e' | e'
    · exact h.dj q e'
    · exact h.sa.sr.offs e'
end
end Go.Proofs.YtkkgfnncdaiooaaGreat
namespace Go.Proofs.YtkkgfnncdaiooaaGreat
open Go.RowKit
set_option linter.unusedVariables false

noncomputable def gbB (S : Sh) (id : Int) : Sh := ⟨S.lv, S.lo, S.hi, pbC S.cs S.hd S.sz (rlM S.l S.h id), ifE (puE S.cs S.hd S.sz (rlM S.l S.h id)) S.hd, ifE (puE S.cs S.hd S.sz (rlM S.l S.h id)) (S.sz + 1), rlL S.l S.h id, rlH S.l S.h id⟩
noncomputable def nkC (cs : List Msg) (hd sz : Int) (M : Msg) (lim : Int) : List Msg := if spF M lim = true then pbC cs hd sz M else pfC cs hd sz M
noncomputable def nkH (cs : List Msg) (hd sz : Int) (M : Msg) (lim : Int) : Int := if spF M lim = true then ifE (puE cs hd sz M) hd else pfH cs hd sz M
noncomputable def gbN (S : Sh) (id lim : Int) : Sh := ⟨S.lv, S.lo, S.hi, nkC S.cs S.hd S.sz (rlM S.l S.h id) lim, nkH S.cs S.hd S.sz (rlM S.l S.h id) lim, ifE (puE S.cs S.hd S.sz (rlM S.l S.h id)) (S.sz + 1), rlL S.l S.h id, rlH S.l S.h id⟩
theorem gbB_sh {V : Vs} {id : Int} (k : V.Ok) (e : rlE V.l V.h id = 0) : gbB V.sh id = ((V.rel id).push (rlM V.l V.h id)).sh ∧ ((V.rel id).push (rlM V.l V.h id)).Ok := by
  have f := k.back e
  have k2 := (k.rel e).1
  obtain ⟨p1, p2⟩ := k2.pb f
  refine ⟨?_, k2.push f⟩
  show Sh.mk true V.lo V.hi (pbC (fil V.n V.hd V.L) V.hd V.L.length (rlM V.l V.h id)) (ifE (puE (fil V.n V.hd V.L) V.hd V.L.length (rlM V.l V.h id)) V.hd) (ifE (puE (fil V.n V.hd V.L) V.hd V.L.length (rlM V.l V.h id)) (V.L.length + 1)) (rlL V.l V.h id) (rlH V.l V.h id) = Sh.mk true V.lo V.hi (fil V.n V.hd (V.L ++ [rlM V.l V.h id])) V.hd (V.L ++ [rlM V.l V.h id]).length (rlL V.l V.h id) (rlH V.l V.h id)
  rw [show puE (fil V.n V.hd V.L) V.hd V.L.length (rlM V.l V.h id) = 0 from p1, show pbC (fil V.n V.hd V.L) V.hd V.L.length (rlM V.l V.h id) = fil V.n V.hd (V.L ++ [rlM V.l V.h id]) from p2]
  simp [ifE]
theorem gbN_sh {V : Vs} {id lim : Int} (k : V.Ok) (e : rlE V.l V.h id = 0) : gbN V.sh id lim = (if spF (rlM V.l V.h id) lim = true then (V.rel id).push (rlM V.l V.h id) else (V.rel id).front (rlM V.l V.h id)).sh ∧ (if spF (rlM V.l V.h id) lim = true then (V.rel id).push (rlM V.l V.h id) else (V.rel id).front (rlM V.l V.h id)).Ok := by
  have f := k.back e
  have k2 := (k.rel e).1
  by_cases hs : spF (rlM V.l V.h id) lim = true
  · rw [if_pos hs]
    refine ⟨?_, k2.push f⟩
    rw [← (gbB_sh k e).1]
    have hs' : spF (rlM V.sh.l V.sh.h id) lim = true := hs
    unfold gbN gbB nkC nkH
    rw [if_pos hs', if_pos hs']
  · rw [if_neg hs]
    obtain ⟨p1, p2, p3⟩ := k2.pf f
    refine ⟨?_, k2.front f⟩
    have e1 : puE (fil V.n V.hd V.L) V.hd V.L.length (rlM V.l V.h id) = 0 := p1
    have e2 : pfC (fil V.n V.hd V.L) V.hd V.L.length (rlM V.l V.h id) = fil V.n ((V.hd + (V.n - 1)) % V.n) (rlM V.l V.h id :: V.L) := p2
    have e3 : pfH (fil V.n V.hd V.L) V.hd V.L.length (rlM V.l V.h id) = ((V.hd + (V.n - 1)) % V.n : Nat) := p3
    have hs' : ¬ spF (rlM V.sh.l V.sh.h id) lim = true := hs
    unfold gbN nkC nkH
    rw [if_neg hs', if_neg hs']
    show Sh.mk true V.lo V.hi (pfC (fil V.n V.hd V.L) V.hd V.L.length (rlM V.l V.h id)) (pfH (fil V.n V.hd V.L) V.hd V.L.length (rlM V.l V.h id)) (ifE (puE (fil V.n V.hd V.L) V.hd V.L.length (rlM V.l V.h id)) (V.L.length + 1)) (rlL V.l V.h id) (rlH V.l V.h id) = Sh.mk true V.lo V.hi (fil V.n ((V.hd + (V.n - 1)) % V.n) (rlM V.l V.h id :: V.L)) ((V.hd + (V.n - 1)) % V.n : Nat) (rlM V.l V.h id :: V.L).length (rlL V.l V.h id) (rlH V.l V.h id)
    rw [e1, e2, e3]
    simp [ifE]
set_option maxHeartbeats 4000000 in
set_option maxRecDepth 20000 in
theorem nack1_any (A : Option Addr) (n c : Nat) (cs : List Msg) (hd sz : Int) (M : Msg) (b : Nat) (lim : Int) (w : World) (hv : Ls w w.heap.size (.slice A n c) cs) (hc : w.cell? ⟨b, 0, none⟩ = some (.int .i64 lim)) (hb : b < w.heap.size) :
    Calls Tryz.prog 47 #[.agg #[.slice A n c, .int .i64 hd, .int .i64 sz], M.v, .pointer (some ⟨b, 0, none⟩)] w (RP w (nkC cs hd sz M lim) (nkH cs hd sz M lim) (ifE (puE cs hd sz M) (sz + 1)) (puE cs hd sz M)) := by
  obtain ⟨rfl, hm1, hm2⟩ := hv.len
  have HV := Lib.hid hv
  have HR0 := Lib.hid (((RgAt.start w A cs.length c hd sz 27).alloc (.cells #[.int .i64 M.id, .int .i64 M.rt, .int .i64 M.ep, .int .i64 M.ct, .int .i64 M.gn, .int .i64 M.st, .string M.bd] 57)).alloc (.cells #[.slice none 0 0, .int .i64 0, .int .i64 0] 27))
  have HM0 := Lib.hid (show MBx (((w.alloc (.cells #[.slice A cs.length c, .int .i64 hd, .int .i64 sz] 27)).alloc (.cells #[.int .i64 M.id, .int .i64 M.rt, .int .i64 M.ep, .int .i64 M.ct, .int .i64 M.gn, .int .i64 M.st, .string M.bd] 57)).alloc (.cells #[.slice none 0 0, .int .i64 0, .int .i64 0] 27)) (w.heap.size + 1) M from by
    have h := MBx.start (w.alloc (.cells #[.slice A cs.length c, .int .i64 hd, .int .i64 sz] 27)) M 57
    rw [show (w.alloc (.cells #[.slice A cs.length c, .int .i64 hd, .int .i64 sz] 27)).heap.size = w.heap.size + 1 by simp] at h
    exact h.up ((Below.refl _ _).alloc (Nat.le_refl _) _))
  have HZ0 := Lib.hid (show RB (((w.alloc (.cells #[.slice A cs.length c, .int .i64 hd, .int .i64 sz] 27)).alloc (.cells #[.int .i64 M.id, .int .i64 M.rt, .int .i64 M.ep, .int .i64 M.ct, .int .i64 M.gn, .int .i64 M.st, .string M.bd] 57)).alloc (.cells #[.slice none 0 0, .int .i64 0, .int .i64 0] 27)) (w.heap.size + 1 + 1) none 0 0 0 0 from by
    have h := RB.fresh ((w.alloc (.cells #[.slice A cs.length c, .int .i64 hd, .int .i64 sz] 27)).alloc (.cells #[.int .i64 M.id, .int .i64 M.rt, .int .i64 M.ep, .int .i64 M.ct, .int .i64 M.gn, .int .i64 M.st, .string M.bd] 57)) none 0 0 0 0 27
    rw [show ((w.alloc (.cells #[.slice A cs.length c, .int .i64 hd, .int .i64 sz] 27)).alloc (.cells #[.int .i64 M.id, .int .i64 M.rt, .int .i64 M.ep, .int .i64 M.ct, .int .i64 M.gn, .int .i64 M.st, .string M.bd] 57)).heap.size = w.heap.size + 1 + 1 by simp] at h
    exact h)
  have HC := Lib.hid ((HR0.out.bel.cell (p := ⟨b, 0, none⟩) hb).trans hc)
  have HBL := Lib.hid (show b < (((w.alloc (.cells #[.slice A cs.length c, .int .i64 hd, .int .i64 sz] 27)).alloc (.cells #[.int .i64 M.id, .int .i64 M.rt, .int .i64 M.ep, .int .i64 M.ct, .int .i64 M.gn, .int .i64 M.st, .string M.bd] 57)).alloc (.cells #[.slice none 0 0, .int .i64 0, .int .i64 0] 27)).heap.size by simp; omega)
  have HSP := Lib.hid (fun W => spent_any M lim W)
  have HPB := Lib.hid (fun W (h : Ls W W.heap.size (.slice A cs.length c) cs) => pback_any A cs.length c cs hd sz M W h)
  have HPF := Lib.hid (fun W (h : Ls W W.heap.size (.slice A cs.length c) cs) => pfront_any A cs.length c cs hd sz M W h)
  clear hv hc hb hm1 hm2
  generalize ifE (puE cs hd sz M) (sz + 1) = zz at *
  generalize hsp : spF M lim = sp at *
  have HSPF := Lib.hid hsp
  clear hsp
  obtain ⟨pE, hpE⟩ : ∃ pE, pE = puE cs hd sz M := ⟨_, rfl⟩
  have HPE := Lib.hid hpE
  rw [← hpE]
  have HPE2 : Hid (puE cs hd sz M = pE) := Lib.hid hpE.symm
  rw [← hpE] at HPF
  clear hpE
  go_enter Tryz.func47, Tryz.ntmps47
  obtain ⟨x0, x1, x2, xl⟩ := HR0.out.facts
  obtain ⟨v0, v1, v2, v3, v4, v5, v6⟩ := HM0.out.m7
  have vl := HM0.out.lt
  have c0 := HC.out
  have cl := HBL.out
  go_wp2_with fail
  obtain ⟨p, hp⟩ : ∃ p, p = w.heap.size := ⟨_, rfl⟩
  obtain ⟨q, hq⟩ : ∃ q, q = w.heap.size + 1 := ⟨_, rfl⟩
  obtain ⟨r, hr⟩ : ∃ r, r = w.heap.size + 1 + 1 := ⟨_, rfl⟩
  have HRR := Lib.hid (show w.heap.size ≤ r by omega)
  clear x0 x1 x2 xl v0 v1 v2 v3 v4 v5 v6 vl c0 cl
  rw [← hr, ← hq, ← hp]
  rw [← hp] at HR0
  rw [← hq] at HM0
  rw [← hr] at HZ0
  clear hp hq hr HC HBL
  generalize (((w.alloc (.cells #[.slice A cs.length c, .int .i64 hd, .int .i64 sz] 27)).alloc (.cells #[.int .i64 M.id, .int .i64 M.rt, .int .i64 M.ep, .int .i64 M.ct, .int .i64 M.gn, .int .i64 M.st, .string M.bd] 57)).alloc (.cells #[.slice none 0 0, .int .i64 0, .int .i64 0] 27)) = w3 at *
  refine (HSP.out _).mono ?_
  rintro e w4 ⟨rfl, hb⟩
  have HR1 := Lib.hid (HR0.out.below hb)
  have HM1 := Lib.hid (HM0.out.up hb)
  have HZ1 := Lib.hid (HZ0.out.below hb HZ0.out.lt)
  clear hb
  obtain ⟨x0, x1, x2, xl⟩ := HR1.out.facts
  obtain ⟨v0, v1, v2, v3, v4, v5, v6⟩ := HM1.out.m7
  have vl := HM1.out.lt
  cases sp with
  | true =>
    obtain ⟨xs, hxs⟩ : ∃ xs, xs = pbC cs hd sz M := ⟨_, rfl⟩
    obtain ⟨xh, hxh⟩ : ∃ xh, xh = ifE (puE cs hd sz M) hd := ⟨_, rfl⟩
    have HNC := Lib.hid (show nkC cs hd sz M lim = xs by unfold nkC; rw [if_pos HSPF.out, hxs])
    have HNH := Lib.hid (show nkH cs hd sz M lim = xh by unfold nkH; rw [if_pos HSPF.out, hxh])
    rw [← hxs, ← hxh, HPE2.out] at HPB
    clear hxs hxh
    go_wp2_with fail
    clear x0 x1 x2 xl v0 v1 v2 v3 v4 v5 v6 vl
    refine (HPB.out _ ((HV.out.below HR1.out.bel).more HR1.out.bel.size)).mono ?_
    rintro e w5 ⟨A5, c5, rfl, hn, hl, hb⟩
    have HR2 := Lib.hid (HR1.out.below hb)
    have HZ2 := Lib.hid (HZ1.out.below hb HZ1.out.lt)
    have HF := Lib.hid (show RP w (nkC cs hd sz M lim) (nkH cs hd sz M lim) zz pE (.returned (.tuple #[.agg #[.slice A5 xs.length c5, .int .i64 xh, .int .i64 zz], .int .i64 pE])) (((w5.setCell ⟨r, 0, none⟩ (.slice A5 xs.length c5)).setCell ⟨r, 1, none⟩ (.int .i64 xh)).setCell ⟨r, 2, none⟩ (.int .i64 zz)) from by
      rw [HNC.out, HNH.out]
      exact ⟨A5, c5, rfl, nw_low hn HR1.out.bel.size, (hl.off3 hn HZ1.out.lt _ _ _).more (by simp), bst (bst (bst HR2.out.bel (p := ⟨r, 0, none⟩) HRR.out _) (p := ⟨r, 1, none⟩) HRR.out _) (p := ⟨r, 2, none⟩) HRR.out _⟩)
    clear hn hl hb
    obtain ⟨r0, r1, r2, r3, r4, r5, rl⟩ := HZ2.out.facts
    go_wp2
    exact bodyPost_ret (v := .tuple #[.agg #[.slice A5 xs.length c5, .int .i64 xh, .int .i64 zz], .int .i64 pE]) (by simp only [results, Tryz.results47]; go_simp <;> rfl) rfl HF.out
  | false =>
    have hsp' : ¬ spF M lim = true := by rw [HSPF.out]; decide
    obtain ⟨xs, hxs⟩ : ∃ xs, xs = pfC cs hd sz M := ⟨_, rfl⟩
    obtain ⟨xh, hxh⟩ : ∃ xh, xh = pfH cs hd sz M := ⟨_, rfl⟩
    have HNC := Lib.hid (show nkC cs hd sz M lim = xs by unfold nkC; rw [if_neg hsp', hxs])
    have HNH := Lib.hid (show nkH cs hd sz M lim = xh by unfold nkH; rw [if_neg hsp', hxh])
    rw [← hxs, ← hxh] at HPF
    clear hxs hxh hsp'
    go_wp2_with fail
    clear x0 x1 x2 xl v0 v1 v2 v3 v4 v5 v6 vl
    refine (HPF.out _ ((HV.out.below HR1.out.bel).more HR1.out.bel.size)).mono ?_
    rintro e w5 ⟨A5, c5, rfl, hn, hl, hb⟩
    have HR2 := Lib.hid (HR1.out.below hb)
    have HZ2 := Lib.hid (HZ1.out.below hb HZ1.out.lt)
    have HF := Lib.hid (show RP w (nkC cs hd sz M lim) (nkH cs hd sz M lim) zz pE (.returned (.tuple #[.agg #[.slice A5 xs.length c5, .int .i64 xh, .int .i64 zz], .int .i64 pE])) (((w5.setCell ⟨r, 0, none⟩ (.slice A5 xs.length c5)).setCell ⟨r, 1, none⟩ (.int .i64 xh)).setCell ⟨r, 2, none⟩ (.int .i64 zz)) from by
      rw [HNC.out, HNH.out]
      exact ⟨A5, c5, rfl, nw_low hn HR1.out.bel.size, (hl.off3 hn HZ1.out.lt _ _ _).more (by simp), bst (bst (bst HR2.out.bel (p := ⟨r, 0, none⟩) HRR.out _) (p := ⟨r, 1, none⟩) HRR.out _) (p := ⟨r, 2, none⟩) HRR.out _⟩)
    clear hn hl hb
    obtain ⟨r0, r1, r2, r3, r4, r5, rl⟩ := HZ2.out.facts
    go_wp2
    exact bodyPost_ret (v := .tuple #[.agg #[.slice A5 xs.length c5, .int .i64 xh, .int .i64 zz], .int .i64 pE]) (by simp only [results, Tryz.results47]; go_simp <;> rfl) rfl HF.out
set_option maxHeartbeats 8000000 in
set_option maxRecDepth 20000 in
theorem giveback_any (S : Sh) (D : Sx) (id : Int) (w : World) (hs : SR w w.heap.size S D) :
    Calls Tryz.prog 46 #[sv S D, .int .i64 id, .func (.func 49) #[] #[]] w (SV w (gbB S id)) := by
  have H0 := Lib.hid ((SAt.start 33 hs).alloc (.cells #[.bool false, .int .i64 0, .int .i64 0, .slice none 0 0, .int .i64 0, .int .i64 0, .slice none 0 0, .slice none 0 0] 33))
  have R0 := Lib.hid (SB8.zero (w.alloc (.cells #[.bool S.lv, .int .i64 S.lo, .int .i64 S.hi, .slice D.A S.cs.length D.c, .int .i64 S.hd, .int .i64 S.sz, .slice D.A2 S.l.length D.c2, .slice D.A3 S.h.length D.c3] 33)) 33)
  have HRL := Lib.hid (fun p W (q : SAt w p S D W) => lrelease_any D.A2 S.l.length D.c2 S.l D.A3 S.h.length D.c3 S.h id W q.sr.el q.sr.dl)
  have HPB := Lib.hid (fun p (l : List Le) (hh : List Du) D W (q : SAt w p ⟨S.lv, S.lo, S.hi, S.cs, S.hd, S.sz, l, hh⟩ D W) => pback_any D.A S.cs.length D.c S.cs S.hd S.sz (rlM S.l S.h id) W q.sr.ls)
  obtain ⟨T, hT⟩ : ∃ T, T = (gbB S id) := ⟨_, rfl⟩
  have HTT := Lib.hid (show T = ⟨S.lv, S.lo, S.hi, pbC S.cs S.hd S.sz (rlM S.l S.h id), ifE (puE S.cs S.hd S.sz (rlM S.l S.h id)) S.hd, ifE (puE S.cs S.hd S.sz (rlM S.l S.h id)) (S.sz + 1), rlL S.l S.h id, rlH S.l S.h id⟩ from hT)
  rw [← hT]
  clear hT hs
  generalize rlL S.l S.h id = gl at *
  generalize rlH S.l S.h id = gh at *
  generalize rlE S.l S.h id = rE at *
  generalize rlM S.l S.h id = M at *
  generalize pbC S.cs S.hd S.sz M = cs at *
  generalize ifE (puE S.cs S.hd S.sz M) S.hd = hd at *
  generalize ifE (puE S.cs S.hd S.sz M) (S.sz + 1) = sz at *
  generalize puE S.cs S.hd S.sz M = pE at *
  go_enter Tryz.func46, Tryz.ntmps46
  obtain ⟨t0, t1, t2, t3, t4, t5, t6, t7, tl⟩ := H0.out.s8.facts
  go_wp2_with fail
  clear t0 t1 t2 t3 t4 t5 t6 t7 tl
  obtain ⟨p, hp⟩ : ∃ p, p = w.heap.size := ⟨_, rfl⟩
  obtain ⟨r, hr⟩ : ∃ r, r = w.heap.size + 1 := ⟨_, rfl⟩
  have e1 : (w.alloc (.cells #[.bool S.lv, .int .i64 S.lo, .int .i64 S.hi, .slice D.A S.cs.length D.c, .int .i64 S.hd, .int .i64 S.sz, .slice D.A2 S.l.length D.c2, .slice D.A3 S.h.length D.c3] 33)).heap.size = r := by rw [hr]; simp
  rw [e1] at R0
  have HPR := Lib.hid (show ¬ p = r ∧ ¬ r = p ∧ w.heap.size ≤ p ∧ p < r by omega)
  rw [← hr, ← hp]
  rw [← hp] at H0
  clear e1 hp hr
  generalize ((w.alloc (.cells #[.bool S.lv, .int .i64 S.lo, .int .i64 S.hi, .slice D.A S.cs.length D.c, .int .i64 S.hd, .int .i64 S.sz, .slice D.A2 S.l.length D.c2, .slice D.A3 S.h.length D.c3] 33)).alloc (.cells #[.bool false, .int .i64 0, .int .i64 0, .slice none 0 0, .int .i64 0, .int .i64 0, .slice none 0 0, .slice none 0 0] 33)) = w1 at *
  refine (HRL.out _ _ H0.out).mono ?_
  rintro e w2 ⟨A3, c3, A4, c4, rfl, n3, n4, h3, h4, hb⟩
  have H1 := Lib.hid (H0.out.below hb)
  have R1 := Lib.hid (R0.out.up hb)
  have H2 := Lib.hid (H1.out.setTab h3 h4 (offb_nw n3 H0.out.lt) (offb_nw n4 H0.out.lt))
  have R2 := Lib.hid ((R1.out.other (q := ⟨p, 6, none⟩) HPR.out.1 (.slice A3 gl.length c3)).other (q := ⟨p, 7, none⟩) HPR.out.1 (.slice A4 gh.length c4))
  have H3 := Lib.hid (show SAt w p ⟨S.lv, S.lo, S.hi, S.cs, S.hd, S.sz, gl, gh⟩ ⟨D.A, D.c, A3, c3, A4, c4⟩ ((((w2.setCell ⟨p, 6, none⟩ (.slice A3 gl.length c3)).setCell ⟨p, 7, none⟩ (.slice A4 gh.length c4)).alloc (.cells #[.slice A3 gl.length c3, .slice A4 gh.length c4] 31)).alloc (.cells #[.int .i64 M.id, .int .i64 M.rt, .int .i64 M.ep, .int .i64 M.ct, .int .i64 M.gn, .int .i64 M.st, .string M.bd] 57)) from (H2.out.alloc _).alloc _)
  have R3 := Lib.hid (show SB8 ((((w2.setCell ⟨p, 6, none⟩ (.slice A3 gl.length c3)).setCell ⟨p, 7, none⟩ (.slice A4 gh.length c4)).alloc (.cells #[.slice A3 gl.length c3, .slice A4 gh.length c4] 31)).alloc (.cells #[.int .i64 M.id, .int .i64 M.rt, .int .i64 M.ep, .int .i64 M.ct, .int .i64 M.gn, .int .i64 M.st, .string M.bd] 57)) r zS zX from (R2.out.up ((Below.refl _ _).alloc (Nat.le_refl _) _)).up ((Below.refl _ _).alloc (Nat.le_refl _) _))
  have N3 := Lib.hid (show Nw (r + 1) A3 ∧ Nw (r + 1) A4 from ⟨nw_low n3 R0.out.lt, nw_low n4 R0.out.lt⟩)
  have HPW := Lib.hid (show p < w2.heap.size ∧ r < w2.heap.size from ⟨H1.out.lt, R1.out.lt⟩)
  clear n3 n4 h3 h4 hb
  obtain ⟨⟨t0, t1, t2, t3, t4, t5, t6, t7, tl⟩, ⟨f0, f1, f2, f3, f4, f5, f6, f7⟩⟩ := H1.out.s8.all
  go_wp2_with fail
  clear t0 t1 t2 t3 t4 t5 t6 t7 tl f0 f1 f2 f3 f4 f5 f6 f7
  generalize ((((w2.setCell ⟨p, 6, none⟩ (.slice A3 gl.length c3)).setCell ⟨p, 7, none⟩ (.slice A4 gh.length c4)).alloc (.cells #[.slice A3 gl.length c3, .slice A4 gh.length c4] 31)).alloc (.cells #[.int .i64 M.id, .int .i64 M.rt, .int .i64 M.ep, .int .i64 M.ct, .int .i64 M.gn, .int .i64 M.st, .string M.bd] 57)) = w4 at *
  refine (HPB.out _ gl gh _ _ H3.out).mono ?_
  rintro e w5 ⟨A6, c6, rfl, hn6, hl6, hb⟩
  have H5 := Lib.hid (H3.out.below hb)
  have R5 := Lib.hid (R3.out.up hb)
  have H6 := Lib.hid (H5.out.setRing hd sz hl6 (offb_nw hn6 H3.out.lt))
  have N6 := Lib.hid (show Nw (r + 1) A6 from nw_low hn6 R3.out.lt)
  clear hn6 hl6 hb
  have HF := Lib.hid (show SV w T (.returned (.agg #[.bool S.lv, .int .i64 S.lo, .int .i64 S.hi, .slice A6 cs.length c6, .int .i64 hd, .int .i64 sz, .slice A3 gl.length c3, .slice A4 gh.length c4])) (((((((((((w5.setCell ⟨p, 3, none⟩ (.slice A6 cs.length c6)).setCell ⟨p, 4, none⟩ (.int .i64 hd)).setCell ⟨p, 5, none⟩ (.int .i64 sz)).setCell ⟨r, 0, none⟩ (.bool S.lv)).setCell ⟨r, 1, none⟩ (.int .i64 S.lo)).setCell ⟨r, 2, none⟩ (.int .i64 S.hi)).setCell ⟨r, 3, none⟩ (.slice A6 cs.length c6)).setCell ⟨r, 4, none⟩ (.int .i64 hd)).setCell ⟨r, 5, none⟩ (.int .i64 sz)).setCell ⟨r, 6, none⟩ (.slice A3 gl.length c3)).setCell ⟨r, 7, none⟩ (.slice A4 gh.length c4)) from by
    rw [HTT.out]
    have hne := HPR.out
    exact ⟨⟨A6, c6, A3, c3, A4, c4⟩, rfl, ⟨nw_low N6.out (by omega), nw_low N3.out.1 (by omega), nw_low N3.out.2 (by omega)⟩, SR.sets (S := ⟨S.lv, S.lo, S.hi, cs, hd, sz, gl, gh⟩) (D := ⟨A6, c6, A3, c3, A4, c4⟩) ⟨offb_nw N6.out (Nat.lt_succ_self r), offb_nw N3.out.1 (Nat.lt_succ_self r), offb_nw N3.out.2 (Nat.lt_succ_self r)⟩ (Sh.l8 ⟨S.lv, S.lo, S.hi, cs, hd, sz, gl, gh⟩ ⟨A6, c6, A3, c3, A4, c4⟩) 0 _ H6.out.sr, set8s_below (show w.heap.size ≤ r by omega) H6.out.bel ⟨S.lv, S.lo, S.hi, cs, hd, sz, gl, gh⟩ ⟨A6, c6, A3, c3, A4, c4⟩⟩)
  obtain ⟨⟨t0, t1, t2, t3, t4, t5, t6, t7, tl⟩, ⟨f0, f1, f2, f3, f4, f5, f6, f7⟩⟩ := H5.out.s8.all
  obtain ⟨⟨r0, r1, r2, r3, r4, r5, r6, r7, rl⟩, ⟨g0, g1, g2, g3, g4, g5, g6, g7⟩⟩ := R5.out.all
  obtain ⟨hpr, hrp, -, -⟩ := HPR.out
  go_wp2
  exact bodyPost_ret (v := .agg #[.bool S.lv, .int .i64 S.lo, .int .i64 S.hi, .slice A6 cs.length c6, .int .i64 hd, .int .i64 sz, .slice A3 gl.length c3, .slice A4 gh.length c4]) (by simp only [results, Tryz.results46]; go_simp <;> rfl) rfl HF.out
set_option maxHeartbeats 8000000 in
set_option maxRecDepth 20000 in
theorem givenack_any (S : Sh) (D : Sx) (id : Int) (b : Nat) (lim : Int) (w : World) (hs : SR w w.heap.size S D) (hc : w.cell? ⟨b, 0, none⟩ = some (.int .i64 lim)) (hb : b < w.heap.size) :
    Calls Tryz.prog 46 #[sv S D, .int .i64 id, .func (.func 47) #[] #[.pointer (some ⟨b, 0, none⟩)]] w (SV w (gbN S id lim)) := by
  have H0 := Lib.hid ((SAt.start 33 hs).alloc (.cells #[.bool false, .int .i64 0, .int .i64 0, .slice none 0 0, .int .i64 0, .int .i64 0, .slice none 0 0, .slice none 0 0] 33))
  have R0 := Lib.hid (SB8.zero (w.alloc (.cells #[.bool S.lv, .int .i64 S.lo, .int .i64 S.hi, .slice D.A S.cs.length D.c, .int .i64 S.hd, .int .i64 S.sz, .slice D.A2 S.l.length D.c2, .slice D.A3 S.h.length D.c3] 33)) 33)
  have HRL := Lib.hid (fun p W (q : SAt w p S D W) => lrelease_any D.A2 S.l.length D.c2 S.l D.A3 S.h.length D.c3 S.h id W q.sr.el q.sr.dl)
  have HPB := Lib.hid (fun p (l : List Le) (hh : List Du) D W (q : SAt w p ⟨S.lv, S.lo, S.hi, S.cs, S.hd, S.sz, l, hh⟩ D W) => nack1_any D.A S.cs.length D.c S.cs S.hd S.sz (rlM S.l S.h id) b lim W q.sr.ls ((q.bel.cell (p := ⟨b, 0, none⟩) hb).trans hc) (Nat.lt_of_lt_of_le hb q.bel.size))
  clear hc hb
  obtain ⟨T, hT⟩ : ∃ T, T = (gbN S id lim) := ⟨_, rfl⟩
  have HTT := Lib.hid (show T = ⟨S.lv, S.lo, S.hi, nkC S.cs S.hd S.sz (rlM S.l S.h id) lim, nkH S.cs S.hd S.sz (rlM S.l S.h id) lim, ifE (puE S.cs S.hd S.sz (rlM S.l S.h id)) (S.sz + 1), rlL S.l S.h id, rlH S.l S.h id⟩ from hT)
  rw [← hT]
  clear hT hs
  generalize rlL S.l S.h id = gl at *
  generalize rlH S.l S.h id = gh at *
  generalize rlE S.l S.h id = rE at *
  generalize rlM S.l S.h id = M at *
  generalize nkC S.cs S.hd S.sz M lim = cs at *
  generalize nkH S.cs S.hd S.sz M lim = hd at *
  generalize ifE (puE S.cs S.hd S.sz M) (S.sz + 1) = sz at *
  generalize puE S.cs S.hd S.sz M = pE at *
  go_enter Tryz.func46, Tryz.ntmps46
  obtain ⟨t0, t1, t2, t3, t4, t5, t6, t7, tl⟩ := H0.out.s8.facts
  go_wp2_with fail
  clear t0 t1 t2 t3 t4 t5 t6 t7 tl
  obtain ⟨p, hp⟩ : ∃ p, p = w.heap.size := ⟨_, rfl⟩
  obtain ⟨r, hr⟩ : ∃ r, r = w.heap.size + 1 := ⟨_, rfl⟩
  have e1 : (w.alloc (.cells #[.bool S.lv, .int .i64 S.lo, .int .i64 S.hi, .slice D.A S.cs.length D.c, .int .i64 S.hd, .int .i64 S.sz, .slice D.A2 S.l.length D.c2, .slice D.A3 S.h.length D.c3] 33)).heap.size = r := by rw [hr]; simp
  rw [e1] at R0
  have HPR := Lib.hid (show ¬ p = r ∧ ¬ r = p ∧ w.heap.size ≤ p ∧ p < r by omega)
  rw [← hr, ← hp]
  rw [← hp] at H0
  clear e1 hp hr
  generalize ((w.alloc (.cells #[.bool S.lv, .int .i64 S.lo, .int .i64 S.hi, .slice D.A S.cs.length D.c, .int .i64 S.hd, .int .i64 S.sz, .slice D.A2 S.l.length D.c2, .slice D.A3 S.h.length D.c3] 33)).alloc (.cells #[.bool false, .int .i64 0, .int .i64 0, .slice none 0 0, .int .i64 0, .int .i64 0, .slice none 0 0, .slice none 0 0] 33)) = w1 at *
  refine (HRL.out _ _ H0.out).mono ?_
  rintro e w2 ⟨A3, c3, A4, c4, rfl, n3, n4, h3, h4, hb⟩
  have H1 := Lib.hid (H0.out.below hb)
  have R1 := Lib.hid (R0.out.up hb)
  have H2 := Lib.hid (H1.out.setTab h3 h4 (offb_nw n3 H0.out.lt) (offb_nw n4 H0.out.lt))
  have R2 := Lib.hid ((R1.out.other (q := ⟨p, 6, none⟩) HPR.out.1 (.slice A3 gl.length c3)).other (q := ⟨p, 7, none⟩) HPR.out.1 (.slice A4 gh.length c4))
  have H3 := Lib.hid (show SAt w p ⟨S.lv, S.lo, S.hi, S.cs, S.hd, S.sz, gl, gh⟩ ⟨D.A, D.c, A3, c3, A4, c4⟩ ((((w2.setCell ⟨p, 6, none⟩ (.slice A3 gl.length c3)).setCell ⟨p, 7, none⟩ (.slice A4 gh.length c4)).alloc (.cells #[.slice A3 gl.length c3, .slice A4 gh.length c4] 31)).alloc (.cells #[.int .i64 M.id, .int .i64 M.rt, .int .i64 M.ep, .int .i64 M.ct, .int .i64 M.gn, .int .i64 M.st, .string M.bd] 57)) from (H2.out.alloc _).alloc _)
  have R3 := Lib.hid (show SB8 ((((w2.setCell ⟨p, 6, none⟩ (.slice A3 gl.length c3)).setCell ⟨p, 7, none⟩ (.slice A4 gh.length c4)).alloc (.cells #[.slice A3 gl.length c3, .slice A4 gh.length c4] 31)).alloc (.cells #[.int .i64 M.id, .int .i64 M.rt, .int .i64 M.ep, .int .i64 M.ct, .int .i64 M.gn, .int .i64 M.st, .string M.bd] 57)) r zS zX from (R2.out.up ((Below.refl _ _).alloc (Nat.le_refl _) _)).up ((Below.refl _ _).alloc (Nat.le_refl _) _))
  have N3 := Lib.hid (show Nw (r + 1) A3 ∧ Nw (r + 1) A4 from ⟨nw_low n3 R0.out.lt, nw_low n4 R0.out.lt⟩)
  have HPW := Lib.hid (show p < w2.heap.size ∧ r < w2.heap.size from ⟨H1.out.lt, R1.out.lt⟩)
  clear n3 n4 h3 h4 hb
  obtain ⟨⟨t0, t1, t2, t3, t4, t5, t6, t7, tl⟩, ⟨f0, f1, f2, f3, f4, f5, f6, f7⟩⟩ := H1.out.s8.all
  go_wp2_with fail
  clear t0 t1 t2 t3 t4 t5 t6 t7 tl f0 f1 f2 f3 f4 f5 f6 f7
  generalize ((((w2.setCell ⟨p, 6, none⟩ (.slice A3 gl.length c3)).setCell ⟨p, 7, none⟩ (.slice A4 gh.length c4)).alloc (.cells #[.slice A3 gl.length c3, .slice A4 gh.length c4] 31)).alloc (.cells #[.int .i64 M.id, .int .i64 M.rt, .int .i64 M.ep, .int .i64 M.ct, .int .i64 M.gn, .int .i64 M.st, .string M.bd] 57)) = w4 at *
  refine (HPB.out _ gl gh _ _ H3.out).mono ?_
  rintro e w5 ⟨A6, c6, rfl, hn6, hl6, hb⟩
  have H5 := Lib.hid (H3.out.below hb)
  have R5 := Lib.hid (R3.out.up hb)
  have H6 := Lib.hid (H5.out.setRing hd sz hl6 (offb_nw hn6 H3.out.lt))
  have N6 := Lib.hid (show Nw (r + 1) A6 from nw_low hn6 R3.out.lt)
  clear hn6 hl6 hb
  have HF := Lib.hid (show SV w T (.returned (.agg #[.bool S.lv, .int .i64 S.lo, .int .i64 S.hi, .slice A6 cs.length c6, .int .i64 hd, .int .i64 sz, .slice A3 gl.length c3, .slice A4 gh.length c4])) (((((((((((w5.setCell ⟨p, 3, none⟩ (.slice A6 cs.length c6)).setCell ⟨p, 4, none⟩ (.int .i64 hd)).setCell ⟨p, 5, none⟩ (.int .i64 sz)).setCell ⟨r, 0, none⟩ (.bool S.lv)).setCell ⟨r, 1, none⟩ (.int .i64 S.lo)).setCell ⟨r, 2, none⟩ (.int .i64 S.hi)).setCell ⟨r, 3, none⟩ (.slice A6 cs.length c6)).setCell ⟨r, 4, none⟩ (.int .i64 hd)).setCell ⟨r, 5, none⟩ (.int .i64 sz)).setCell ⟨r, 6, none⟩ (.slice A3 gl.length c3)).setCell ⟨r, 7, none⟩ (.slice A4 gh.length c4)) from by
    rw [HTT.out]
    have hne := HPR.out
    exact ⟨⟨A6, c6, A3, c3, A4, c4⟩, rfl, ⟨nw_low N6.out (by omega), nw_low N3.out.1 (by omega), nw_low N3.out.2 (by omega)⟩, SR.sets (S := ⟨S.lv, S.lo, S.hi, cs, hd, sz, gl, gh⟩) (D := ⟨A6, c6, A3, c3, A4, c4⟩) ⟨offb_nw N6.out (Nat.lt_succ_self r), offb_nw N3.out.1 (Nat.lt_succ_self r), offb_nw N3.out.2 (Nat.lt_succ_self r)⟩ (Sh.l8 ⟨S.lv, S.lo, S.hi, cs, hd, sz, gl, gh⟩ ⟨A6, c6, A3, c3, A4, c4⟩) 0 _ H6.out.sr, set8s_below (show w.heap.size ≤ r by omega) H6.out.bel ⟨S.lv, S.lo, S.hi, cs, hd, sz, gl, gh⟩ ⟨A6, c6, A3, c3, A4, c4⟩⟩)
  obtain ⟨⟨t0, t1, t2, t3, t4, t5, t6, t7, tl⟩, ⟨f0, f1, f2, f3, f4, f5, f6, f7⟩⟩ := H5.out.s8.all
  obtain ⟨⟨r0, r1, r2, r3, r4, r5, r6, r7, rl⟩, ⟨g0, g1, g2, g3, g4, g5, g6, g7⟩⟩ := R5.out.all
  obtain ⟨hpr, hrp, -, -⟩ := HPR.out
  go_wp2
  exact bodyPost_ret (v := .agg #[.bool S.lv, .int .i64 S.lo, .int .i64 S.hi, .slice A6 cs.length c6, .int .i64 hd, .int .i64 sz, .slice A3 gl.length c3, .slice A4 gh.length c4]) (by simp only [results, Tryz.results46]; go_simp <;> rfl) rfl HF.out
end Go.Proofs.YtkkgfnncdaiooaaGreat
namespace Go.Proofs.YtkkgfnncdaiooaaGreat
open Go.RowKit
set_option linter.unusedVariables false

def IsP (w : World) (q n : Nat) (h : List Du) (e : Ending) (w' : World) : Prop := e = .returned (.tuple #[]) ∧ ∃ g : List Du, g.Perm h ∧ Srt g ∧ RwAt w q n g w'
set_option maxHeartbeats 8000000 in
set_option maxRecDepth 20000 in
theorem isort_any (q n cap : Nat) (h : List Du) (w : World) (hr : DRow w q n (ge h)) (hn : h.length = n) (h100 : n ≤ 100) :
    Calls Tryz.prog 219 #[.slice (some ⟨q, 0, none⟩) n cap, .int .i64 0, .int .i64 n, .func (.func 160) #[] #[]] w (IsP w q n h) := by
  have H := Lib.hid (RwAt.mk hr hn (Below.refl q w))
  have hn100 : (n : Int) ≤ 100 := by omega
  clear hr hn
  go_enter Tryz.func219, Tryz.ntmps219
  go_wp2
  go_loopw [8] (fun iv wr => ∃ (i : Nat) (g : List Du), iv = .int .i64 i ∧ 1 ≤ i ∧ i ≤ 101 ∧ SrtTo h i g ∧ RwAt w q n g wr) (fun iv _ => n - (intOf iv).toNat)
  case atStart => exact ⟨1, h, rfl, Nat.le_refl _, by omega, SrtTo.start h, H.out⟩
  case round =>
    obtain ⟨i, g, rfl, hi1, hi2, hso, hra⟩ := hrel
    have HS := Lib.hid hso
    have HR := Lib.hid hra
    clear hso hra
    have hi3 : (i : Int) ≤ 101 := by omega
    by_cases hlt : i < n
    · have hlt' : (i : Int) < (n : Int) := by omega
      go_wp2
      go_loopw [9] (fun jv wr2 => ∃ (j : Nat) (g2 : List Du), jv = .int .i64 j ∧ j ≤ i ∧ Ins h i j g2 ∧ RwAt w q n g2 wr2) (fun jv _ => (intOf jv).toNat)
      case atStart => exact ⟨i, g, rfl, Nat.le_refl _, HS.out.ins, HR.out⟩
      case round =>
        obtain ⟨j, g2, rfl, hji, hin, hr2⟩ := hrel
        have HI := Lib.hid hin
        have HR2 := Lib.hid hr2
        clear hin hr2
        by_cases hj0 : 0 < j
        · obtain ⟨k, hk⟩ : ∃ k, k = j - 1 := ⟨_, rfl⟩
          have HK := Lib.hid hk
          have hw : IntKind.i64.wrap ((j : Int) - 1) = (k : Int) := by rw [IntWalk.i64_in _ (by omega)]; omega
          have hjn : j < n := by omega
          have hkn : k < n := by omega
          obtain ⟨c0, c1, f0, f1, hq⟩ := HR2.out.row.at_ hjn
          obtain ⟨d0, d1, e0, e1, -⟩ := HR2.out.row.at_ hkn
          obtain ⟨X, hX⟩ : ∃ X, ge g2 j = X := ⟨_, rfl⟩
          obtain ⟨Y, hY⟩ : ∃ Y, ge g2 k = Y := ⟨_, rfl⟩
          have HX := Lib.hid hX
          have HY := Lib.hid hY
          rw [hX] at c0 c1
          rw [hY] at d0 d1
          have HC := Lib.hid (fun w => compare_any X Y w)
          have HSA := Lib.hid (show wr.drew.cell? ⟨q, j * 2, none⟩ = some (.int .i64 X.dl) ∧ wr.drew.cell? ⟨q, j * 2 + 1, none⟩ = some (.int .i64 X.id) ∧ wr.drew.cell? ⟨q, k * 2, none⟩ = some (.int .i64 Y.dl) ∧ wr.drew.cell? ⟨q, k * 2 + 1, none⟩ = some (.int .i64 Y.id) from ⟨c0, c1, d0, d1⟩)
          have HSC := Lib.hid (fun w1 (hb1 : Below wr.drew.heap.size wr.drew w1) => show (w1.cell? ⟨q, j * 2, none⟩ = some (.int .i64 X.dl) ∧ w1.cell? ⟨q, j * 2 + 1, none⟩ = some (.int .i64 X.id) ∧ w1.cell? ⟨q, k * 2, none⟩ = some (.int .i64 Y.dl) ∧ w1.cell? ⟨q, k * 2 + 1, none⟩ = some (.int .i64 Y.id)) ∧ RwAt w q n g2 w1 from ⟨⟨(hb1.cell (p := ⟨q, j * 2, none⟩) hq).trans c0, (hb1.cell (p := ⟨q, j * 2 + 1, none⟩) hq).trans c1, (hb1.cell (p := ⟨q, k * 2, none⟩) hq).trans d0, (hb1.cell (p := ⟨q, k * 2 + 1, none⟩) hq).trans d1⟩, HR2.out.drew.below hb1⟩)
          have hj0' : (0 : Int) < (j : Int) := by omega
          have hjn' : (j : Int) < (n : Int) := by omega
          have hkn' : (k : Int) < (n : Int) := by omega
          have hgd : decide ((0 : Int) < (j : Int)) = true := decide_eq_true hj0'
          clear hX hY hk f0 f1 e0 e1
          cases hb : bef X Y with
          | true =>
            have HBB := Lib.hid (show bef (ge g2 j) (ge g2 (j - 1)) = true by rw [HX.out, ← HK.out, HY.out]; exact hb)
            have hne : ¬ j = k ∧ ¬ k = j := by have := HK.out; omega
            have HNE := Lib.hid hne
            rw [cmF_lt hb] at HC
            clear hb hne
            go_wp2
            go_region_held3 (fun W => W.cell? ⟨q, j * 2, none⟩ = some (.int .i64 X.dl) ∧ W.cell? ⟨q, j * 2 + 1, none⟩ = some (.int .i64 X.id) ∧ W.cell? ⟨q, k * 2, none⟩ = some (.int .i64 Y.dl) ∧ W.cell? ⟨q, k * 2 + 1, none⟩ = some (.int .i64 Y.id))
              (first | with_reducible exact HSA.out | with_reducible exact HSB.out)
              ((go_at_call 160; (with_reducible refine (HC.out _).mono ?_); rintro e w1 ⟨rfl, hb1⟩; obtain ⟨hs, hr⟩ := HSC.out _ hb1; have HSB := Lib.hid hs; have HR3 := Lib.hid hr; clear hb1 hs hr))
            clear c0 c1 d0 d1 hq
            obtain ⟨c0, c1, f0, f1, hq⟩ := HR3.out.row.at_ hjn
            obtain ⟨d0, d1, e0, e1, -⟩ := HR3.out.row.at_ hkn
            rw [HX.out] at c0 c1
            rw [HY.out] at d0 d1
            obtain ⟨n1, n2⟩ := HNE.out
            go_wp2
            go_region
            clear c0 c1 d0 d1 f0 f1 e0 e1 hq n1 n2
            have HR4 := Lib.hid ((HR3.out.swap hjn hkn).drew)
            rw [HX.out, HY.out] at HR4
            generalize ((((w1.setCell ⟨q, j * 2, none⟩ (.int .i64 Y.dl)).setCell ⟨q, j * 2 + 1, none⟩ (.int .i64 Y.id)).setCell ⟨q, k * 2, none⟩ (.int .i64 X.dl)).setCell ⟨q, k * 2 + 1, none⟩ (.int .i64 X.id)).drew = w2 at *
            have HI2 := Lib.hid (show Ins h i k (swp g2 j k) by rw [HK.out]; exact HI.out.step hj0 hji (by rw [HR2.out.len]; omega) HBB.out)
            go_wp2
            go_roundw
            case rel => exact ⟨k, swp g2 j k, by have := HK.out; go_num, by have := HK.out; omega, HI2.out, HR4.out⟩
            case measure => have := HK.out; simp [intOf]; omega
          | false =>
            have HDN := Lib.hid (HI.out.done hji (.inr (by rw [HX.out, ← HK.out, HY.out]; exact hb)))
            have hcn : ¬ (cmF X Y < 0) := fun hc => by rw [(cmF_neg X Y).1 hc] at hb; cases hb
            generalize cmF X Y = cv at *
            have hcd : decide (cv < 0) = false := decide_eq_false hcn
            clear hb
            go_wp2
            go_region_held3 (fun W => W.cell? ⟨q, j * 2, none⟩ = some (.int .i64 X.dl) ∧ W.cell? ⟨q, j * 2 + 1, none⟩ = some (.int .i64 X.id) ∧ W.cell? ⟨q, k * 2, none⟩ = some (.int .i64 Y.dl) ∧ W.cell? ⟨q, k * 2 + 1, none⟩ = some (.int .i64 Y.id))
              (first | with_reducible exact HSA.out | with_reducible exact HSB.out)
              ((go_at_call 160; (with_reducible refine (HC.out _).mono ?_); rintro e w1 ⟨rfl, hb1⟩; obtain ⟨hs, hr⟩ := HSC.out _ hb1; have HSB := Lib.hid hs; have HR3 := Lib.hid hr; clear hb1 hs hr))
            clear c0 c1 d0 d1 hq
            go_wp2
            go_roundw
            case rel => exact ⟨i + 1, g2, by go_num, by omega, by omega, HDN.out, HR3.out⟩
            case measure => simp [intOf]; omega
        · obtain rfl : j = 0 := by omega
          have HDN := Lib.hid (HI.out.done (Nat.zero_le _) (.inl rfl))
          go_wp2
          go_quiet (fail)
          go_wp2
          go_roundw
          case rel => exact ⟨i + 1, g2, by go_num, by omega, by omega, HDN.out, HR2.out.drewN _⟩
          case measure => simp [intOf]; omega
    · have hlt' : ¬ (i : Int) < (n : Int) := by omega
      have HF := Lib.hid (show ∃ g : List Du, g.Perm h ∧ Srt g ∧ RwAt w q n g wr from ⟨g, HS.out.perm, HS.out.srt (by rw [HR.out.len]; omega), HR.out⟩)
      go_wp2
      go_end0
      exact ⟨rfl, HF.out⟩
end Go.Proofs.YtkkgfnncdaiooaaGreat
