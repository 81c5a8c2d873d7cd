/- What is proved here: shard.pull of what Take wants, by a contract; shard.pull of what Take wants, by a contract; shardqueueref04.List and shardqueueref04.pushable by contracts; shardqueueref07.Ready, Leased, All by contracts. -/
import Derived.Test.YtdilgeabcacbdaaGreatJ26
import Derived.Test.YtdilgeabcacbdaaGreatJ09
import Derived.Test.YtdilgeabcacbdaaGreatJ10
import Derived.Test.YtdilgeabcacbdaaGreatJ07
import Derived.Test.YtdilgeabcacbdaaGreatJ19
import Derived.Deep.RegionLaw
namespace Go.Proofs.YtdilgeabcacbdaaGreat
open Go.RowKit
set_option linter.unusedVariables false

/-- The boxes of the epoch and of the limit that Take's function value holds. -/
def CapAt (b1 b2 : Nat) (ep lim : Int) (W : World) : Prop := W.cell? ⟨b1, 0, none⟩ = some (.int .i64 ep) ∧ W.cell? ⟨b2, 0, none⟩ = some (.int .i64 lim) ∧ b1 < W.heap.size ∧ b2 < W.heap.size
theorem CapAt.below {b1 b2 : Nat} {ep lim : Int} {w W : World} (h : CapAt b1 b2 ep lim w) (hb : Below w.heap.size w W) : CapAt b1 b2 ep lim W :=
  ⟨(hb.cell (p := ⟨b1, 0, none⟩) h.2.2.1).trans h.1, (hb.cell (p := ⟨b2, 0, none⟩) h.2.2.2).trans h.2.1, Nat.lt_of_lt_of_le h.2.2.1 hb.size, Nat.lt_of_lt_of_le h.2.2.2 hb.size⟩
section
variable {V : Vs} {mx : Nat} {f : Msg → Bool} {i : Nat}
end
theorem Ls.grownR {W W' : World} {B n c : Nat} {A : Option Addr} {l : List Msg} (h : Ls W B (.slice A n c) l) (hB : B ≤ W.heap.size) {row : Option Nat} (hg : W.grownBy W' row) (ho : ∀ q, row = some q → OffB q n A) : Ls W' B (.slice A n c) l := by
  obtain ⟨h1, h2, h3⟩ := h.len
  subst h1
  refine ⟨A, c, rfl, h2, h3, h.rd.1, fun hn => ?_⟩
  obtain ⟨b, o, e, hb, hc⟩ := h.rd.2 hn
  exact ⟨b, o, e, hb, fun j u hu => (hg.cell_far ⟨b, o + j, none⟩ (Nat.lt_of_lt_of_le hb hB) (fun e' => ho b e'.symm hn _ e rfl)).trans (hc j u hu)⟩
theorem El.grownR {W W' : World} {B n c : Nat} {A : Option Addr} {l : List Le} (h : El W B (.slice A n c) l) (hB : B ≤ W.heap.size) {row : Option Nat} (hg : W.grownBy W' row) (ho : ∀ q, row = some q → OffB q n A) : El W' B (.slice A n c) l := by
  obtain ⟨h1, h2, h3⟩ := h.len
  subst h1
  refine ⟨A, c, rfl, h2, h3, h.rd.1, fun hn => ?_⟩
  obtain ⟨b, o, e, hb, hc⟩ := h.rd.2 hn
  exact ⟨b, o, e, hb, fun j u hu => (hg.cell_far ⟨b, o + j, none⟩ (Nat.lt_of_lt_of_le hb hB) (fun e' => ho b e'.symm hn _ e rfl)).trans (hc j u hu)⟩
theorem Dl.grownR {W W' : World} {B n c : Nat} {A : Option Addr} {l : List Du} (h : Dl W B (.slice A n c) l) (hB : B ≤ W.heap.size) {row : Option Nat} (hg : W.grownBy W' row) (ho : ∀ q, row = some q → OffB q n A) : Dl W' B (.slice A n c) l := by
  obtain ⟨h1, h2, h3⟩ := h.len
  subst h1
  refine ⟨A, c, rfl, h2, h3, h.rd.1, fun hn => ?_⟩
  obtain ⟨b, o, e, hb, hc⟩ := h.rd.2 hn
  exact ⟨b, o, e, hb, fun j u hu => (hg.cell_far ⟨b, o + j, none⟩ (Nat.lt_of_lt_of_le hb hB) (fun e' => ho b e'.symm hn _ e rfl)).trans (hc j u hu)⟩
theorem SAt.grown {w W W' : World} {p : Nat} {S : Sh} {D : Sx} (h : SAt w p S D W) {row : Option Nat} (hg : W.grownBy W' row) (ho : ∀ q, row = some q → SOff S D q ∧ p < q) : SAt w p S D W' :=
  ⟨h.s8.grown hg (fun x e => by have := (ho x e).2; omega), ⟨(h.sr.ls.grownR (Nat.le_refl _) hg (fun q e => (ho q e).1.o1)).more hg.size, (h.sr.el.grownR (Nat.le_refl _) hg (fun q e => (ho q e).1.o2)).more hg.size, (h.sr.dl.grownR (Nat.le_refl _) hg (fun q e => (ho q e).1.o3)).more hg.size⟩, h.off,
   h.bel.grown hg h.bel.size (fun x e => by have := (ho x e).2; have := h.old; omega), h.old⟩
/-- The work of pull: the shard, the result box, the list that is gone through, the list that is made. -/
structure PullAt (w : World) (p r B : Nat) (S : Sh) (D : Sx) (A0 : Option Addr) (c0 : Nat) (L : List Msg) (lv : Value) (T : List Msg) (W : World) : Prop where
  sa : SAt w p S D W
  rs : SB8 W r zS zX
  l0 : Ls W B (.slice A0 L.length c0) L
  o0 : OffB p L.length A0
  own : W.ownsRow B 66 7 lv T.length (lcs T)
  dj : ∀ q, lv.ownBlock = some q → SOff S D q
  dr : D.nw (r + 1)
  ne : p < r ∧ r < B ∧ B ≤ W.heap.size
section
variable {w W W' : World} {p r B c0 : Nat} {S : Sh} {D : Sx} {A0 : Option Addr} {L T : List Msg} {lv : Value}
theorem own_below {base e size n : Nat} {v : Value} {xs : List Value} (h : W.ownsRow base e size v n xs) (hb : Below W.heap.size W W') : W'.ownsRow base e size v n xs := by
  refine ⟨h.1, h.2.imp_right fun ⟨g, cap, cur, hv, hg, hh, r⟩ => ⟨g, cap, cur, hv, hg, ?_, r⟩⟩
  rw [← hh]
  exact hb.block g (Array.getElem?_eq_some_iff.1 hh).1
theorem PullAt.below (h : PullAt w p r B S D A0 c0 L lv T W) (hb : Below W.heap.size W W') : PullAt w p r B S D A0 c0 L lv T W' :=
  ⟨h.sa.below hb, h.rs.up hb, h.l0.below (hb.mono h.ne.2.2), h.o0, own_below h.own hb, h.dj, h.dr, h.ne.1, h.ne.2.1, Nat.le_trans h.ne.2.2 hb.size⟩
/-- A message more. -/
theorem PullAt.app {lv' : Value} {T' : List Msg} (h : PullAt w p r B S D A0 c0 L lv T W) (ho : W'.ownsRow B 66 7 lv' T'.length (lcs T')) (hg : W.grownBy W' lv.ownBlock) (hw : ∀ q, lv'.ownBlock = some q → lv.ownBlock = some q ∨ W.heap.size ≤ q) : PullAt w p r B S D A0 c0 L lv' T' W' := by
  have hne := h.ne
  have hlt : ∀ q, lv.ownBlock = some q → B ≤ q := fun q e => (h.own.lt q e).1
  refine ⟨h.sa.grown hg (fun q e => ⟨h.dj q e, by have := hlt q e; omega⟩), h.rs.grown hg (fun q e => by have := hlt q e; omega), h.l0.grownR hne.2.2 hg (fun q e => ?_), h.o0, ho, fun q e => ?_, h.dr, hne.1, hne.2.1, Nat.le_trans hne.2.2 hg.size⟩
  · exact rd_off h.l0.rd (hlt q e)
  · rcases hw q e with e' | e'
    · exact h.dj q e'
    · exact h.sa.sr.offs e'
end
end Go.Proofs.YtdilgeabcacbdaaGreat
namespace Go.Proofs.YtdilgeabcacbdaaGreat
open Go.RowKit
set_option linter.unusedVariables false

theorem own_end {w1 : World} {base g cap : Nat} {T : List Msg} {X : Msg} (hown : w1.ownsRow base 66 7 (.slice (some ⟨g, 0, none⟩) (T.length + 1) cap) (T.length + 1) (lcs T ++ X.l)) : w1.ownsRow base 66 7 (.slice (some ⟨g, 0, none⟩) (T.length + 1) cap) (T ++ [X]).length (lcs (T ++ [X])) := by
  have hM1 : lcs [X] = X.l := by simp [lcs]
  rw [lcs_app, hM1, List.length_append]
  exact hown
end Go.Proofs.YtdilgeabcacbdaaGreat
namespace Go.Proofs.YtdilgeabcacbdaaGreat
open Go.RowKit
set_option linter.unusedVariables false

set_option maxHeartbeats 2000000 in
theorem rlist_any (A : Option Addr) (n c : Nat) (cs : List Msg) (hd sz : Int) (w : World) (hv : Ls w w.heap.size (.slice A n c) cs) :
    Calls Tryz.prog 58 #[.agg #[.slice A n c, .int .i64 hd, .int .i64 sz]] w (LsP (lsF cs hd sz) w) := by
  obtain ⟨rfl, _, _⟩ := hv.len
  have HV := Lib.hid hv
  have HS := Lib.hid (RgAt.start w A cs.length c hd sz 31)
  have HG := Lib.hid (fun w1 (h : Ls w1 w1.heap.size (.slice A cs.length c) cs) => rvalid_any A cs.length c cs hd sz w1 h)
  clear hv
  by_cases h0 : rgV cs hd sz = 0
  · obtain ⟨hn, _, _, _⟩ := rgV_zero h0
    obtain ⟨⟨n1, n2⟩, ⟨h1, h2⟩, ⟨s1, s2⟩⟩ := nm_of hn
    obtain ⟨hd, rfl⟩ := Int.eq_ofNat_of_zero_le h1
    obtain ⟨sz, rfl⟩ := Int.eq_ofNat_of_zero_le s1
    have HO := Lib.hid (fun w1 (h : Ls w1 w1.heap.size (.slice A cs.length c) cs) => rorder_any A cs.length c cs hd sz w1 h hn)
    have HF := Lib.hid (show lsF cs hd sz = ord cs hd sz from if_pos h0)
    rw [h0] at HG
    clear h0 hn n1 n2 h1 h2 s1 s2
    go_enter Tryz.func58, Tryz.ntmps58
    go_wp2_with fail
    refine (HG.out _ ((HV.out.below HS.out.bel).more HS.out.bel.size)).mono ?_
    rintro e w1 ⟨rfl, hb⟩
    have HR1 := Lib.hid (HS.out.below hb)
    obtain ⟨r0, r1, r2, hp⟩ := HR1.out.facts
    clear hb
    go_wp2_with fail
    refine (HO.out _ ((HV.out.below HR1.out.bel).more HR1.out.bel.size)).mono ?_
    rintro e w2 ⟨v, rfl, hnw, hl, hb⟩
    have HNV := Lib.hid (nwv_low hnw HR1.out.bel.size)
    clear hnw
    have HL := Lib.hid hl
    have HB := Lib.hid (HR1.out.bel.trans (hb.mono HR1.out.bel.size))
    clear hl hb
    go_wp2
    go_ret
    exact ⟨_, rfl, HNV.out, by rw [HF.out]; exact HL.out, HB.out⟩
  · have HF := Lib.hid (show lsF cs hd sz = [] from if_neg h0)
    have hne : (rgV cs hd sz != 0) = true := bne_iff_ne.2 h0
    generalize rgV cs hd sz = x at *
    clear h0
    go_enter Tryz.func58, Tryz.ntmps58
    go_wp2_with fail
    refine (HG.out _ ((HV.out.below HS.out.bel).more HS.out.bel.size)).mono ?_
    rintro e w1 ⟨rfl, hb⟩
    have HR1 := Lib.hid (HS.out.below hb)
    clear hb
    go_wp2
    go_ret
    exact ⟨_, rfl, nwv_mk nw_none, by rw [HF.out]; exact Ls.nil, HR1.out.bel⟩

set_option maxHeartbeats 4000000 in
theorem pushable_any (A : Option Addr) (n c : Nat) (cs : List Msg) (hd sz : Int) (M : Msg) (w : World) (hv : Ls w w.heap.size (.slice A n c) cs) :
    Calls Tryz.prog 109 #[.agg #[.slice A n c, .int .i64 hd, .int .i64 sz], M.v] w (VlT w (puE cs hd sz M)) := by
  obtain ⟨rfl, _, _⟩ := hv.len
  have HV := Lib.hid hv
  have HS := Lib.hid (RmAt.start w A cs.length c hd sz M 31 66)
  have HG := Lib.hid (fun w1 (h : Ls w1 w1.heap.size (.slice A cs.length c) cs) => rvalid_any A cs.length c cs hd sz w1 h)
  have HM := Lib.hid (fun w1 => rvalidate_any M w1)
  clear hv
  by_cases h0 : rgV cs hd sz = 0
  · by_cases h1 : vf M = 0
    · by_cases h2 : sz = cs.length
      · have HF := Lib.hid (show puE cs hd sz M = 3 by unfold puE; rw [if_neg (by simpa using h0), if_neg (by simpa using h1), if_pos h2])
        rw [h0] at HG
        rw [h1] at HM
        subst h2
        clear h0 h1
        go_enter Tryz.func109, Tryz.ntmps109
        go_wp2_with fail
        refine (HG.out _ (HV.out.up HS.out.rg.bel)).mono ?_
        rintro e w1 ⟨rfl, hb⟩
        have HR1 := Lib.hid (HS.out.below hb)
        obtain ⟨⟨r0, r1, r2, hp⟩, ⟨m0, m1, m2, m3, m4, m5, m6⟩, hq⟩ := HR1.out.facts
        clear hb
        go_wp2_with fail
        refine (HM.out _).mono ?_
        rintro e w2 ⟨rfl, hb⟩
        have HR2 := Lib.hid (HR1.out.below hb)
        clear hb r0 r1 r2 hp m0 m1 m2 m3 m4 m5 m6 hq
        obtain ⟨⟨r0, r1, r2, hp⟩, ⟨m0, m1, m2, m3, m4, m5, m6⟩, hq⟩ := HR2.out.facts
        go_wp2
        go_ret
        exact ⟨ret_i64 HF.out.symm, HR2.out.rg.bel⟩
      · have h2' : (sz == (cs.length : Int)) = false := beq_eq_false_iff_ne.2 h2
        obtain ⟨hn, _, _, _⟩ := rgV_zero h0
        obtain ⟨⟨n1, n2⟩, ⟨k1, k2⟩, ⟨s1, s2⟩⟩ := nm_of hn
        obtain ⟨hd, rfl⟩ := Int.eq_ofNat_of_zero_le k1
        obtain ⟨sz, rfl⟩ := Int.eq_ofNat_of_zero_le s1
        have HO := Lib.hid (fun w1 (h : Ls w1 w1.heap.size (.slice A cs.length c) cs) => rorder_any A cs.length c cs hd sz w1 h hn)
        have HF := Lib.hid (show puE cs hd sz M = if 0 ≤ ixF (ord cs hd sz) M.id then 10 else 0 by unfold puE; rw [if_neg (by simpa using h0), if_neg (by simpa using h1), if_neg h2]; simp only [Int.toNat_natCast])
        have HFI := Lib.hid (fun v w1 (h : Ls w1 w1.heap.size v (ord cs hd sz)) => (show ∃ A' n' c', v = .slice A' n' c' from by obtain ⟨A', c', e, _⟩ := h.form; exact ⟨A', _, c', e⟩))
        have HFN := Lib.hid (fun A' n' c' w1 (h : Ls w1 w1.heap.size (.slice A' n' c') (ord cs hd sz)) => rindex_any A' n' c' (ord cs hd sz) M.id w1 w1.heap.size h)
        have HIL := Lib.hid (ixF_lt (ord cs hd sz) M.id).1
        generalize ixF (ord cs hd sz) M.id = r at *
        generalize ord cs hd sz = l at *
        rw [h0] at HG
        rw [h1] at HM
        clear h0 h1 h2 hn n1 n2 k1 k2 s1 s2
        by_cases hr : 0 ≤ r
        · have HF' := Lib.hid (HF.out.trans (if_pos hr))
          go_enter Tryz.func109, Tryz.ntmps109
          go_wp2_with fail
          refine (HG.out _ (HV.out.up HS.out.rg.bel)).mono ?_
          rintro e w1 ⟨rfl, hb⟩
          have HR1 := Lib.hid (HS.out.below hb)
          obtain ⟨⟨r0, r1, r2, hp⟩, ⟨m0, m1, m2, m3, m4, m5, m6⟩, hq⟩ := HR1.out.facts
          clear hb
          go_wp2_with fail
          refine (HM.out _).mono ?_
          rintro e w2 ⟨rfl, hb⟩
          have HR2 := Lib.hid (HR1.out.below hb)
          clear hb r0 r1 r2 hp m0 m1 m2 m3 m4 m5 m6 hq
          obtain ⟨⟨r0, r1, r2, hp⟩, ⟨m0, m1, m2, m3, m4, m5, m6⟩, hq⟩ := HR2.out.facts
          go_wp2
          go_region_with (first
            | (go_at_call 66; refine (HO.out _ (HV.out.up HR2.out.drew.rg.bel)).mono ?_; rintro e w3 ⟨v, rfl, hnw, hl, hb⟩; clear hnw; obtain ⟨A3, n3, c3, rfl⟩ := HFI.out _ _ hl; have HR3 := Lib.hid (HR2.out.drew.below hb); have HL3 := Lib.hid hl; obtain ⟨⟨t0, t1, t2, hp3⟩, ⟨x0, x1, x2, x3, x4, x5, x6⟩, hq3⟩ := HR3.out.facts; clear hl hb)
            | (go_at_call 56; refine (HFN.out _ _ _ _ HL3.out).mono ?_; rintro e w4 ⟨rfl, rfl⟩; have HR4 := HR3))
          all_goals
            go_wp2
            go_ret
            exact ⟨ret_i64 HF'.out.symm, HR4.out.rg.bel⟩
        · have HF' := Lib.hid (HF.out.trans (if_neg hr))
          have hr1 : r = -1 := by have := HIL.out; omega
          subst hr1
          clear hr
          go_enter Tryz.func109, Tryz.ntmps109
          go_wp2_with fail
          refine (HG.out _ (HV.out.up HS.out.rg.bel)).mono ?_
          rintro e w1 ⟨rfl, hb⟩
          have HR1 := Lib.hid (HS.out.below hb)
          obtain ⟨⟨r0, r1, r2, hp⟩, ⟨m0, m1, m2, m3, m4, m5, m6⟩, hq⟩ := HR1.out.facts
          clear hb
          go_wp2_with fail
          refine (HM.out _).mono ?_
          rintro e w2 ⟨rfl, hb⟩
          have HR2 := Lib.hid (HR1.out.below hb)
          clear hb r0 r1 r2 hp m0 m1 m2 m3 m4 m5 m6 hq
          obtain ⟨⟨r0, r1, r2, hp⟩, ⟨m0, m1, m2, m3, m4, m5, m6⟩, hq⟩ := HR2.out.facts
          go_wp2
          go_region_with (first
            | (go_at_call 66; refine (HO.out _ (HV.out.up HR2.out.drew.rg.bel)).mono ?_; rintro e w3 ⟨v, rfl, hnw, hl, hb⟩; clear hnw; obtain ⟨A3, n3, c3, rfl⟩ := HFI.out _ _ hl; have HR3 := Lib.hid (HR2.out.drew.below hb); have HL3 := Lib.hid hl; obtain ⟨⟨t0, t1, t2, hp3⟩, ⟨x0, x1, x2, x3, x4, x5, x6⟩, hq3⟩ := HR3.out.facts; clear hl hb)
            | (go_at_call 56; refine (HFN.out _ _ _ _ HL3.out).mono ?_; rintro e w4 ⟨rfl, rfl⟩; have HR4 := HR3))
          all_goals
            go_wp2
            go_ret
            exact ⟨ret_i64 HF'.out.symm, HR4.out.rg.bel⟩
    · have HF := Lib.hid (show puE cs hd sz M = vf M by unfold puE; rw [if_neg (by simpa using h0), if_pos h1])
      have hne : (vf M != 0) = true := bne_iff_ne.2 h1
      generalize vf M = x at *
      rw [h0] at HG
      clear h0 h1
      go_enter Tryz.func109, Tryz.ntmps109
      go_wp2_with fail
      refine (HG.out _ (HV.out.up HS.out.rg.bel)).mono ?_
      rintro e w1 ⟨rfl, hb⟩
      have HR1 := Lib.hid (HS.out.below hb)
      obtain ⟨⟨r0, r1, r2, hp⟩, ⟨m0, m1, m2, m3, m4, m5, m6⟩, hq⟩ := HR1.out.facts
      clear hb
      go_wp2_with fail
      refine (HM.out _).mono ?_
      rintro e w2 ⟨rfl, hb⟩
      have HR2 := Lib.hid (HR1.out.below hb)
      clear hb r0 r1 r2 hp m0 m1 m2 m3 m4 m5 m6 hq
      go_wp2
      go_ret
      exact ⟨ret_i64 HF.out.symm, HR2.out.rg.bel⟩
  · have HF := Lib.hid (show puE cs hd sz M = rgV cs hd sz from if_pos h0)
    have hne : (rgV cs hd sz != 0) = true := bne_iff_ne.2 h0
    generalize rgV cs hd sz = x at *
    clear h0
    go_enter Tryz.func109, Tryz.ntmps109
    go_wp2_with fail
    refine (HG.out _ (HV.out.up HS.out.rg.bel)).mono ?_
    rintro e w1 ⟨rfl, hb⟩
    have HR1 := Lib.hid (HS.out.below hb)
    clear hb
    go_wp2
    go_ret
    exact ⟨ret_i64 HF.out.symm, HR1.out.rg.bel⟩
end Go.Proofs.YtdilgeabcacbdaaGreat
namespace Go.Proofs.YtdilgeabcacbdaaGreat
open Go.RowKit
set_option linter.unusedVariables false

/-- A list as a result. -/
def LsR (l : List Msg) (w : World) (e : Ending) (w' : World) : Prop := ∃ A c, e = .returned (.slice A l.length c) ∧ Ls w' w'.heap.size (.slice A l.length c) l ∧ Below w.heap.size w w'
theorem Ls.upz {W W' : World} {L : List Msg} {v : Value} (h : Ls W W.heap.size v L) (hb : Below W.heap.size W W') : Ls W' W'.heap.size v L := (h.below hb).more hb.size
set_option maxHeartbeats 2000000 in
theorem rready_any (S : Sh) (D : Sx) (w : World) (hs : SR w w.heap.size S D) :
    Calls Tryz.prog 39 #[sv S D] w (LsR (lsF S.cs S.hd S.sz) w) := by
  have H0 := Lib.hid (SAt.start 37 hs)
  have HG := Lib.hid (fun p W (k : SAt w p S D W) => rlist_any D.A S.cs.length D.c S.cs S.hd S.sz W k.sr.ls)
  clear hs
  generalize lsF S.cs S.hd S.sz = L at *
  go_enter Tryz.func39, Tryz.ntmps39
  obtain ⟨t0, t1, t2, t3, t4, t5, t6, t7, tl⟩ := H0.out.s8.facts
  go_wp2_with fail
  clear t0 t1 t2 t3 t4 t5 t6 t7 tl
  refine (HG.out _ _ H0.out).mono ?_
  rintro e w2 ⟨v, rfl, hn, hl, hb⟩
  obtain ⟨A, c, rfl, _, _⟩ := hl.form
  have HL := Lib.hid hl
  have HB := Lib.hid (H0.out.below hb).bel
  clear hn hl hb
  go_wp2
  go_ret
  exact ⟨A, c, rfl, HL.out, HB.out⟩
theorem map_m_succ {l : List Le} {k : Nat} (h : k < l.length) : (l.take (k + 1)).map Le.m = (l.take k).map Le.m ++ [l[k].m] := by
  rw [← List.take_append_getElem h, List.map_append]
  rfl
set_option maxHeartbeats 4000000 in
set_option maxRecDepth 20000 in
theorem rleased_any (S : Sh) (D : Sx) (w : World) (hs : SR w w.heap.size S D) (h12 : S.l.length ≤ 1000) :
    Calls Tryz.prog 40 #[sv S D] w (LsR (S.l.map Le.m) w) := by
  obtain ⟨i0, hi0, hz0⟩ := Option.map_eq_some_iff.1 info_msg
  simp only [Prod.mk.injEq] at hz0
  have HI := Lib.hid hi0
  have HZ := Lib.hid hz0
  have H0 := Lib.hid (SAt.start 37 hs)
  have HE := Lib.hid (show S.l.map Le.m = (S.l.take S.l.length).map Le.m by rw [List.take_length])
  have hL : S.l.length ≤ 9223372036854775807 := by omega
  have HLN := Lib.hid h12
  have HRS := Lib.hid hs
  clear hs hi0 hz0 h12
  go_enter Tryz.func40, Tryz.ntmps40
  go_wp2
  obtain ⟨p, hp⟩ : ∃ p, p = w.heap.size := ⟨_, rfl⟩
  rw [← hp] at H0
  rw [← hp]
  clear hp
  generalize w.alloc (.cells #[.bool S.lv, .int .i64 S.lo, .int .i64 S.hi, .slice D.A S.cs.length D.c, .int .i64 S.hd, .int .i64 S.sz, .slice D.A2 S.l.length D.c2, .slice D.A3 S.h.length D.c3] 37) = w1 at *
  go_loopw [3, 4] (fun lv i wr => ∃ k : Nat, k ≤ S.l.length ∧ i = .int .i64 k ∧ SAt w p S D wr ∧ w1.heap.size ≤ wr.heap.size ∧ wr.ownsRow w1.heap.size 66 7 lv ((S.l.take k).map Le.m).length (lcs ((S.l.take k).map Le.m))) (fun _ i _ => S.l.length - (intOf i).toNat)
  case atStart => exact ⟨0, Nat.zero_le _, rfl, H0.out, Nat.le_refl _, World.ownsRow_nil _ _ _ _⟩
  case round =>
    obtain ⟨k, hk, rfl, hsa, hsz, how⟩ := hrel
    have HS := Lib.hid hsa
    have HZZ := Lib.hid hsz
    have HO := Lib.hid how
    clear hsa hsz how
    obtain ⟨A5, c5, rfl⟩ := own_form HO.out
    by_cases hlt : k < S.l.length
    · have HMS := Lib.hid (map_m_succ hlt)
      have HKL := Lib.hid (show ((S.l.take k).map Le.m).length ≤ 1000 by rw [List.length_map, List.length_take]; have := HLN.out; omega)
      obtain ⟨b, o, hA2, hbl, hc⟩ := HS.out.sr.el.at_ hlt
      obtain ⟨x0, x1, x2, x3, x4, x5, x6, x7⟩ := hc
      generalize ((S.l.take k).map Le.m) = T at *
      generalize S.l[k] = X at *
      have HOA := Lib.hid (HO.out.alloc (.cells #[.int .i64 X.m.id, .int .i64 X.m.rt, .int .i64 X.m.ep, .int .i64 X.m.ct, .int .i64 X.m.gn, .int .i64 X.m.st, .string X.m.bd] 66))
      have HSA := Lib.hid (HS.out.alloc (.cells #[.int .i64 X.m.id, .int .i64 X.m.rt, .int .i64 X.m.ep, .int .i64 X.m.ct, .int .i64 X.m.gn, .int .i64 X.m.st, .string X.m.bd] 66))
      have HCX := Lib.hid (msg_row wr X.m 66)
      have HPW := Lib.hid (show p < w1.heap.size from H0.out.lt)
      obtain ⟨t0, t1, t2, t3, t4, t5, t6, t7, tl⟩ := HS.out.s8.facts
      rw [hA2] at t6
      go_wp2_with (at_builtin; refine wpList_append_lies _ rfl (.tmp 13) (.tmp 21) 29 rfl w1.heap.size 66 i0 _ 7 64 Tryz.underlying29 HI.out HZ.out.1 HZ.out.2.1 HZ.out.2.2 rfl (by omega) (.slice A5 T.length c5) T.length (lcs T) rfl HOA.out ⟨wr.heap.size, 0, none⟩ 1 1 X.m.l rfl (by simp [Msg.l_len]) (fun j u hu => by have := HCX.out j u hu; simpa using this) X.m.l_one (by omega) (by have := HKL.out; unfold maxLen; omega) (by have := HKL.out; omega) (by have := HZZ.out; simp; omega) _ rfl ?_; intro g cp w8 hown hgrow hat hglt)
      have HO8 := Lib.hid (own_end hown)
      have HS8 := Lib.hid (HSA.out.grown hgrow (fun q e => ⟨HRS.out.offs (by have h1 := (HOA.out.lt q e).1; have h2 := HPW.out; have h3 := HS.out.old; omega), by have := (HOA.out.lt q e).1; have := HPW.out; omega⟩))
      have HZ8 := Lib.hid (show w1.heap.size ≤ w8.heap.size by have := hgrow.size; simp at this; have := HZZ.out; omega)
      clear hown hgrow hat hglt x0 x1 x2 x3 x4 x5 x6 x7 t0 t1 t2 t3 t4 t5 t6 t7 tl
      go_wp2
      go_roundw
      case rel => exact ⟨k + 1, by omega, by go_num, HS8.out, HZ8.out, by rw [HMS.out]; exact HO8.out⟩
      case measure => simp [intOf]; omega
    · obtain rfl : k = S.l.length := by omega
      obtain ⟨t0, t1, t2, t3, t4, t5, t6, t7, tl⟩ := HS.out.s8.facts
      go_wp2
      go_ret
      exact ⟨A5, c5, by rw [HE.out]; rfl, by rw [HE.out]; exact Ls.of_own HO.out, HS.out.bel⟩
/-- The work of All: the shard, what Ready has returned (r4), the list with it (r5), what Leased has returned (r7). -/
structure AlAt (w : World) (p B : Nat) (S : Sh) (D : Sx) (L T : List Msg) (r4 r5 r7 : Option Value) (W : World) : Prop where
  sa : SAt w p S D W
  f4 : ∀ v, r4 = some v → Ls W W.heap.size v L
  f5 : ∀ v, r5 = some v → W.ownsRow B 66 7 v L.length (lcs L)
  f7 : ∀ v, r7 = some v → Ls W W.heap.size v T
  z : W.ownsRow B 66 7 (.slice none 0 0) 0 []
  pb : p < B ∧ B ≤ W.heap.size
  off : ∀ q, B ≤ q → SOff S D q
section
variable {w W W' : World} {p B : Nat} {S : Sh} {D : Sx} {L T : List Msg} {r4 r5 r7 : Option Value} {v : Value}
theorem AlAt.below (h : AlAt w p B S D L T r4 r5 r7 W) (hb : Below W.heap.size W W') : AlAt w p B S D L T r4 r5 r7 W' :=
  ⟨h.sa.below hb, fun v e => (h.f4 v e).upz hb, fun v e => own_below (h.f5 v e) hb, fun v e => (h.f7 v e).upz hb, World.ownsRow_nil _ _ _ _, ⟨h.pb.1, Nat.le_trans h.pb.2 hb.size⟩, h.off⟩
theorem AlAt.drew (h : AlAt w p B S D L T r4 r5 r7 W) : AlAt w p B S D L T r4 r5 r7 W.drew := h.below (Below.refl _ _).drew
theorem AlAt.a4 (h : AlAt w p B S D L T r4 r5 r7 W) (hb : Below W.heap.size W W') (hl : Ls W' W'.heap.size v L) : AlAt w p B S D L T (some v) r5 r7 W' :=
  ⟨(h.below hb).sa, fun u e => by injection e with e; subst e; exact hl, (h.below hb).f5, (h.below hb).f7, World.ownsRow_nil _ _ _ _, (h.below hb).pb, h.off⟩
theorem AlAt.a7 (h : AlAt w p B S D L T r4 r5 r7 W) (hb : Below W.heap.size W W') (hl : Ls W' W'.heap.size v T) : AlAt w p B S D L T r4 r5 (some v) W' :=
  ⟨(h.below hb).sa, (h.below hb).f4, (h.below hb).f5, fun u e => by injection e with e; subst e; exact hl, World.ownsRow_nil _ _ _ _, (h.below hb).pb, h.off⟩
theorem AlAt.a5 (h : AlAt w p B S D L T r4 none r7 W) (ho : W'.ownsRow B 66 7 v (0 + L.length) ([] ++ lcs L)) (hg : W.grownBy W' (Value.ownBlock (.slice none 0 0))) : AlAt w p B S D L T r4 (some v) r7 W' := by
  have hb : Below W.heap.size W W' := ((Below.refl _ _).grown hg (Nat.le_refl _) (fun x e => by simp [Value.ownBlock] at e))
  have := h.below hb
  refine ⟨this.sa, this.f4, fun u e => by injection e with e; subst e; simpa using ho, this.f7, this.z, this.pb, h.off⟩
theorem AlAt.a8 (h : AlAt w p B S D L T r4 (some v) r7 W) {u : Value} (ho : W'.ownsRow B 66 7 u (L.length + T.length) (lcs L ++ lcs T)) (hg : W.grownBy W' v.ownBlock) : ∃ A c, u = .slice A (L ++ T).length c ∧ Ls W' W'.heap.size (.slice A (L ++ T).length c) (L ++ T) ∧ Below w.heap.size w W' := by
  obtain ⟨A, c, rfl⟩ := own_form ho
  have e : L.length + T.length = (L ++ T).length := by simp
  rw [e, ← lcs_app] at ho
  refine ⟨A, c, by rw [e], Ls.of_own ho, h.sa.bel.grown hg h.sa.bel.size (fun x e => ?_)⟩
  have h1 := ((h.f5 v rfl).lt x e).1
  have h2 := h.pb.1
  have h3 := h.sa.old
  omega
end
set_option maxHeartbeats 4000000 in
set_option maxRecDepth 20000 in
theorem rall_any (S : Sh) (D : Sx) (w : World) (hs : SR w w.heap.size S D) (h11 : (lsF S.cs S.hd S.sz).length ≤ 1000) (h12 : S.l.length ≤ 1000) :
    Calls Tryz.prog 55 #[sv S D] w (LsR S.al w) := by
  obtain ⟨i0, hi0, hz0⟩ := Option.map_eq_some_iff.1 info_msg
  simp only [Prod.mk.injEq] at hz0
  have HI := Lib.hid hi0
  have HZ := Lib.hid hz0
  have HRY := Lib.hid (fun W (k : SR W W.heap.size S D) => rready_any S D W k)
  have HLD := Lib.hid (fun W (k : SR W W.heap.size S D) => rleased_any S D W k h12)
  have HLT := Lib.hid (show (S.l.map Le.m).length ≤ 1000 by rw [List.length_map]; exact h12)
  unfold Sh.al
  generalize lsF S.cs S.hd S.sz = L at *
  generalize S.l.map Le.m = T at *
  have HLL := Lib.hid h11
  have H0 := Lib.hid (show AlAt w w.heap.size (w.heap.size + 1) S D L T none none none _ from ⟨SAt.start 37 hs, fun v e => (by cases e), fun v e => (by cases e), fun v e => (by cases e), World.ownsRow_nil _ _ _ _, ⟨Nat.lt_succ_self _, by simp⟩, fun q hq => hs.offs (by omega)⟩)
  clear hs hi0 hz0 h11 h12
  go_enter Tryz.func55, Tryz.ntmps55
  go_wp2_with fail
  obtain ⟨p, hp⟩ : ∃ p, p = w.heap.size := ⟨_, rfl⟩
  rw [← hp] at H0
  rw [← hp]
  obtain ⟨B, hB⟩ : ∃ B, B = p + 1 := ⟨_, rfl⟩
  rw [← hB] at H0
  clear hp hB
  have HP := Lib.hid H0.out.drew
  obtain ⟨t0, t1, t2, t3, t4, t5, t6, t7, tl⟩ := H0.out.sa.s8.facts
  go_region_law (first
    | (go_simp; go_at_call 39; (with_reducible refine (HRY.out _ HP.out.sa.sr).mono ?_); rintro e w4 ⟨A4, c4, rfl, hl, hb⟩; have HP := Lib.hid (HP.out.a4 hb hl); clear t0 t1 t2 t3 t4 t5 t6 t7 tl hl hb; obtain ⟨t0, t1, t2, t3, t4, t5, t6, t7, tl⟩ := HP.out.sa.s8.facts)
    | (go_simp; go_at_call 40; (with_reducible refine (HLD.out _ HP.out.sa.sr).mono ?_); rintro e w7 ⟨A7, c7, rfl, hl, hb⟩; have HP := Lib.hid (HP.out.a7 hb hl); clear t0 t1 t2 t3 t4 t5 t6 t7 tl hl hb; obtain ⟨t0, t1, t2, t3, t4, t5, t6, t7, tl⟩ := HP.out.sa.s8.facts)
    | (refine step_append_rd _ (by rfl) _ _ _ (by rfl) B 66 i0 _ 7 64 Tryz.underlying29 HI.out HZ.out.1 HZ.out.2.1 HZ.out.2.2 rfl (by omega) (.slice none 0 0) 0 [] (by rfl) HP.out.z _ A4 L.length c4 (lcs L) (by rfl) (HP.out.f4 _ rfl).rd (lcs_one L) (by have := HLL.out; unfold maxLen; omega) (by have := HLL.out; omega) HP.out.pb.2 ?_; intro v5 w5 ho hg _; have HP := Lib.hid (HP.out.a5 ho hg); clear t0 t1 t2 t3 t4 t5 t6 t7 tl ho hg; obtain ⟨t0, t1, t2, t3, t4, t5, t6, t7, tl⟩ := HP.out.sa.s8.facts)
    | (refine step_append_rd _ (by rfl) _ _ _ (by rfl) B 66 i0 _ 7 64 Tryz.underlying29 HI.out HZ.out.1 HZ.out.2.1 HZ.out.2.2 rfl (by omega) v5 L.length (lcs L) (by rfl) (HP.out.f5 _ rfl) _ A7 T.length c7 (lcs T) (by rfl) (HP.out.f7 _ rfl).rd (lcs_one T) (by have := HLL.out; have := HLT.out; unfold maxLen; omega) (by have := HLL.out; have := HLT.out; omega) HP.out.pb.2 ?_; intro v8 w8 ho hg _; have HQ := Lib.hid (HP.out.a8 ho hg); clear t0 t1 t2 t3 t4 t5 t6 t7 tl ho hg))
  all_goals
    obtain ⟨A8, c8, rfl, hl, hb⟩ := HQ.out
    have HF := Lib.hid (And.intro hl hb)
    clear hl hb HQ
    go_wp2
    go_ret
    exact ⟨A8, c8, rfl, HF.out.1, HF.out.2⟩
end Go.Proofs.YtdilgeabcacbdaaGreat
