/- What is proved here: shard.pull of what Take wants, by a contract; shardqueueref04.List and shardqueueref04.pushable by contracts; shardqueueref07.Ready, Leased, All by contracts. -/
import Derived.Test.YtdilgeabcacbdaaJ35
import Derived.Test.YtdilgeabcacbdaaJ13
import Derived.Test.YtdilgeabcacbdaaJ09
import Derived.Test.YtdilgeabcacbdaaJ25
import Derived.Deep.RegionLaw
namespace Go.Proofs.Ytdilgeabcacbdaa
open Go.RowKit
set_option linter.unusedVariables false

theorem own_end {w1 : World} {base g cap : Nat} {T : List Msg} {X : Msg} (hown : w1.ownsRow base 92 7 (.slice (some ⟨g, 0, none⟩) (T.length + 1) cap) (T.length + 1) (lcs T ++ X.l)) : w1.ownsRow base 92 7 (.slice (some ⟨g, 0, none⟩) (T.length + 1) cap) (T ++ [X]).length (lcs (T ++ [X])) := by
  have hM1 : lcs [X] = X.l := by simp [lcs]
  rw [lcs_app, hM1, List.length_append]
  exact hown
end Go.Proofs.Ytdilgeabcacbdaa
namespace Go.Proofs.Ytdilgeabcacbdaa
open Go.RowKit
set_option linter.unusedVariables false

set_option maxHeartbeats 2000000 in
theorem rlist_any (A : Option Addr) (n c : Nat) (cs : List Msg) (hd sz : Int) (w : World) (hv : Ls w w.heap.size (.slice A n c) cs) :
    Calls Try.prog 102 #[.agg #[.slice A n c, .int .i64 hd, .int .i64 sz]] w (LsP (lsF cs hd sz) w) := by
  obtain ⟨rfl, _, _⟩ := hv.len
  have HV := Lib.hid hv
  have HS := Lib.hid (RgAt.start w A cs.length c hd sz 26)
  have HG := Lib.hid (fun w1 (h : Ls w1 w1.heap.size (.slice A cs.length c) cs) => rvalid_any A cs.length c cs hd sz w1 h)
  clear hv
  by_cases h0 : rgV cs hd sz = 0
  · obtain ⟨hn, _, _, _⟩ := rgV_zero h0
    obtain ⟨⟨n1, n2⟩, ⟨h1, h2⟩, ⟨s1, s2⟩⟩ := nm_of hn
    obtain ⟨hd, rfl⟩ := Int.eq_ofNat_of_zero_le h1
    obtain ⟨sz, rfl⟩ := Int.eq_ofNat_of_zero_le s1
    have HO := Lib.hid (fun w1 (h : Ls w1 w1.heap.size (.slice A cs.length c) cs) => rorder_any A cs.length c cs hd sz w1 h hn)
    have HF := Lib.hid (show lsF cs hd sz = ord cs hd sz from if_pos h0)
    rw [h0] at HG
    clear h0 hn n1 n2 h1 h2 s1 s2
    go_enter Try.func102, Try.ntmps102
    go_wp2_with fail
    refine (HG.out _ ((HV.out.below HS.out.bel).more HS.out.bel.size)).mono ?_
    rintro e w1 ⟨rfl, hb⟩
    have HR1 := Lib.hid (HS.out.below hb)
    obtain ⟨r0, r1, r2, hp⟩ := HR1.out.facts
    clear hb
    go_wp2_with fail
    refine (HO.out _ ((HV.out.below HR1.out.bel).more HR1.out.bel.size)).mono ?_
    rintro e w2 ⟨v, rfl, hnw, hl, hb⟩
    have HNV := Lib.hid (nwv_low hnw HR1.out.bel.size)
    clear hnw
    have HL := Lib.hid hl
    have HB := Lib.hid (HR1.out.bel.trans (hb.mono HR1.out.bel.size))
    clear hl hb
    go_wp2
    go_ret
    exact ⟨_, rfl, HNV.out, by rw [HF.out]; exact HL.out, HB.out⟩
  · have HF := Lib.hid (show lsF cs hd sz = [] from if_neg h0)
    have hne : (rgV cs hd sz != 0) = true := bne_iff_ne.2 h0
    generalize rgV cs hd sz = x at *
    clear h0
    go_enter Try.func102, Try.ntmps102
    go_wp2_with fail
    refine (HG.out _ ((HV.out.below HS.out.bel).more HS.out.bel.size)).mono ?_
    rintro e w1 ⟨rfl, hb⟩
    have HR1 := Lib.hid (HS.out.below hb)
    clear hb
    go_wp2
    go_ret
    exact ⟨_, rfl, nwv_mk nw_none, by rw [HF.out]; exact Ls.nil, HR1.out.bel⟩

end Go.Proofs.Ytdilgeabcacbdaa
namespace Go.Proofs.Ytdilgeabcacbdaa
open Go.RowKit
set_option linter.unusedVariables false

/-- A list as a result. -/
def LsR (l : List Msg) (w : World) (e : Ending) (w' : World) : Prop := ∃ A c, e = .returned (.slice A l.length c) ∧ Ls w' w'.heap.size (.slice A l.length c) l ∧ Below w.heap.size w w'
theorem Ls.upz {W W' : World} {L : List Msg} {v : Value} (h : Ls W W.heap.size v L) (hb : Below W.heap.size W W') : Ls W' W'.heap.size v L := (h.below hb).more hb.size
set_option maxHeartbeats 2000000 in
theorem rready_any (S : Sh) (D : Sx) (w : World) (hs : SR w w.heap.size S D) :
    Calls Try.prog 75 #[sv S D] w (LsR (lsF S.cs S.hd S.sz) w) := by
  have H0 := Lib.hid (SAt.start 32 hs)
  have HG := Lib.hid (fun p W (k : SAt w p S D W) => rlist_any D.A S.cs.length D.c S.cs S.hd S.sz W k.sr.ls)
  clear hs
  generalize lsF S.cs S.hd S.sz = L at *
  go_enter Try.func75, Try.ntmps75
  obtain ⟨t0, t1, t2, t3, t4, t5, t6, t7, tl⟩ := H0.out.s8.facts
  go_wp2_with fail
  clear t0 t1 t2 t3 t4 t5 t6 t7 tl
  refine (HG.out _ _ H0.out).mono ?_
  rintro e w2 ⟨v, rfl, hn, hl, hb⟩
  obtain ⟨A, c, rfl, _, _⟩ := hl.form
  have HL := Lib.hid hl
  have HB := Lib.hid (H0.out.below hb).bel
  clear hn hl hb
  go_wp2
  go_ret
  exact ⟨A, c, rfl, HL.out, HB.out⟩
theorem map_m_succ {l : List Le} {k : Nat} (h : k < l.length) : (l.take (k + 1)).map Le.m = (l.take k).map Le.m ++ [l[k].m] := by
  rw [← List.take_append_getElem h, List.map_append]
  rfl
set_option maxHeartbeats 4000000 in
set_option maxRecDepth 20000 in
theorem rleased_any (S : Sh) (D : Sx) (w : World) (hs : SR w w.heap.size S D) (h12 : S.l.length ≤ 1000) :
    Calls Try.prog 76 #[sv S D] w (LsR (S.l.map Le.m) w) := by
  obtain ⟨i0, hi0, hz0⟩ := Option.map_eq_some_iff.1 info_msg
  simp only [Prod.mk.injEq] at hz0
  have HI := Lib.hid hi0
  have HZ := Lib.hid hz0
  have H0 := Lib.hid (SAt.start 32 hs)
  have HE := Lib.hid (show S.l.map Le.m = (S.l.take S.l.length).map Le.m by rw [List.take_length])
  have hL : S.l.length ≤ 9223372036854775807 := by omega
  have HLN := Lib.hid h12
  have HRS := Lib.hid hs
  clear hs hi0 hz0 h12
  go_enter Try.func76, Try.ntmps76
  go_wp2
  obtain ⟨p, hp⟩ : ∃ p, p = w.heap.size := ⟨_, rfl⟩
  rw [← hp] at H0
  rw [← hp]
  clear hp
  generalize w.alloc (.cells #[.bool S.lv, .int .i64 S.lo, .int .i64 S.hi, .slice D.A S.cs.length D.c, .int .i64 S.hd, .int .i64 S.sz, .slice D.A2 S.l.length D.c2, .slice D.A3 S.h.length D.c3] 32) = w1 at *
  go_loopw [3, 4] (fun lv i wr => ∃ k : Nat, k ≤ S.l.length ∧ i = .int .i64 k ∧ SAt w p S D wr ∧ w1.heap.size ≤ wr.heap.size ∧ wr.ownsRow w1.heap.size 92 7 lv ((S.l.take k).map Le.m).length (lcs ((S.l.take k).map Le.m))) (fun _ i _ => S.l.length - (intOf i).toNat)
  case atStart => exact ⟨0, Nat.zero_le _, rfl, H0.out, Nat.le_refl _, World.ownsRow_nil _ _ _ _⟩
  case round =>
    obtain ⟨k, hk, rfl, hsa, hsz, how⟩ := hrel
    have HS := Lib.hid hsa
    have HZZ := Lib.hid hsz
    have HO := Lib.hid how
    clear hsa hsz how
    obtain ⟨A5, c5, rfl⟩ := own_form HO.out
    by_cases hlt : k < S.l.length
    · have HMS := Lib.hid (map_m_succ hlt)
      have HKL := Lib.hid (show ((S.l.take k).map Le.m).length ≤ 1000 by rw [List.length_map, List.length_take]; have := HLN.out; omega)
      obtain ⟨b, o, hA2, hbl, hc⟩ := HS.out.sr.el.at_ hlt
      obtain ⟨x0, x1, x2, x3, x4, x5, x6, x7⟩ := hc
      generalize ((S.l.take k).map Le.m) = T at *
      generalize S.l[k] = X at *
      have HOA := Lib.hid (HO.out.alloc (.cells #[.int .i64 X.m.id, .int .i64 X.m.rt, .int .i64 X.m.ep, .int .i64 X.m.ct, .int .i64 X.m.gn, .int .i64 X.m.st, .string X.m.bd] 92))
      have HSA := Lib.hid (HS.out.alloc (.cells #[.int .i64 X.m.id, .int .i64 X.m.rt, .int .i64 X.m.ep, .int .i64 X.m.ct, .int .i64 X.m.gn, .int .i64 X.m.st, .string X.m.bd] 92))
      have HCX := Lib.hid (msg_row wr X.m 92)
      have HPW := Lib.hid (show p < w1.heap.size from H0.out.lt)
      obtain ⟨t0, t1, t2, t3, t4, t5, t6, t7, tl⟩ := HS.out.s8.facts
      rw [hA2] at t6
      go_wp2_with (at_builtin; refine wpList_append_lies _ rfl (.tmp 13) (.tmp 21) 24 rfl w1.heap.size 92 i0 _ 7 64 Try.underlying24 HI.out HZ.out.1 HZ.out.2.1 HZ.out.2.2 rfl (by omega) (.slice A5 T.length c5) T.length (lcs T) rfl HOA.out ⟨wr.heap.size, 0, none⟩ 1 1 X.m.l rfl (by simp [Msg.l_len]) (fun j u hu => by have := HCX.out j u hu; simpa using this) X.m.l_one (by omega) (by have := HKL.out; unfold maxLen; omega) (by have := HKL.out; omega) (by have := HZZ.out; simp; omega) _ rfl ?_; intro g cp w8 hown hgrow hat hglt)
      have HO8 := Lib.hid (own_end hown)
      have HS8 := Lib.hid (HSA.out.grown hgrow (fun q e => ⟨HRS.out.offs (by have h1 := (HOA.out.lt q e).1; have h2 := HPW.out; have h3 := HS.out.old; omega), by have := (HOA.out.lt q e).1; have := HPW.out; omega⟩))
      have HZ8 := Lib.hid (show w1.heap.size ≤ w8.heap.size by have := hgrow.size; simp at this; have := HZZ.out; omega)
      clear hown hgrow hat hglt x0 x1 x2 x3 x4 x5 x6 x7 t0 t1 t2 t3 t4 t5 t6 t7 tl
      go_wp2
      go_roundw
      case rel => exact ⟨k + 1, by omega, by go_num, HS8.out, HZ8.out, by rw [HMS.out]; exact HO8.out⟩
      case measure => simp [intOf]; omega
    · obtain rfl : k = S.l.length := by omega
      obtain ⟨t0, t1, t2, t3, t4, t5, t6, t7, tl⟩ := HS.out.s8.facts
      go_wp2
      go_ret
      exact ⟨A5, c5, by rw [HE.out]; rfl, by rw [HE.out]; exact Ls.of_own HO.out, HS.out.bel⟩
/-- The work of All: the shard, what Ready has returned (r4), the list with it (r5), what Leased has returned (r7). -/
structure AlAt (w : World) (p B : Nat) (S : Sh) (D : Sx) (L T : List Msg) (r4 r5 r7 : Option Value) (W : World) : Prop where
  sa : SAt w p S D W
  f4 : ∀ v, r4 = some v → Ls W W.heap.size v L
  f5 : ∀ v, r5 = some v → W.ownsRow B 92 7 v L.length (lcs L)
  f7 : ∀ v, r7 = some v → Ls W W.heap.size v T
  z : W.ownsRow B 92 7 (.slice none 0 0) 0 []
  pb : p < B ∧ B ≤ W.heap.size
  off : ∀ q, B ≤ q → SOff S D q
section
variable {w W W' : World} {p B : Nat} {S : Sh} {D : Sx} {L T : List Msg} {r4 r5 r7 : Option Value} {v : Value}
theorem AlAt.below (h : AlAt w p B S D L T r4 r5 r7 W) (hb : Below W.heap.size W W') : AlAt w p B S D L T r4 r5 r7 W' :=
  ⟨h.sa.below hb, fun v e => (h.f4 v e).upz hb, fun v e => own_below (h.f5 v e) hb, fun v e => (h.f7 v e).upz hb, World.ownsRow_nil _ _ _ _, ⟨h.pb.1, Nat.le_trans h.pb.2 hb.size⟩, h.off⟩
theorem AlAt.drew (h : AlAt w p B S D L T r4 r5 r7 W) : AlAt w p B S D L T r4 r5 r7 W.drew := h.below (Below.refl _ _).drew
theorem AlAt.a4 (h : AlAt w p B S D L T r4 r5 r7 W) (hb : Below W.heap.size W W') (hl : Ls W' W'.heap.size v L) : AlAt w p B S D L T (some v) r5 r7 W' :=
  ⟨(h.below hb).sa, fun u e => by injection e with e; subst e; exact hl, (h.below hb).f5, (h.below hb).f7, World.ownsRow_nil _ _ _ _, (h.below hb).pb, h.off⟩
theorem AlAt.a7 (h : AlAt w p B S D L T r4 r5 r7 W) (hb : Below W.heap.size W W') (hl : Ls W' W'.heap.size v T) : AlAt w p B S D L T r4 r5 (some v) W' :=
  ⟨(h.below hb).sa, (h.below hb).f4, (h.below hb).f5, fun u e => by injection e with e; subst e; exact hl, World.ownsRow_nil _ _ _ _, (h.below hb).pb, h.off⟩
theorem AlAt.a5 (h : AlAt w p B S D L T r4 none r7 W) (ho : W'.ownsRow B 92 7 v (0 + L.length) ([] ++ lcs L)) (hg : W.grownBy W' (Value.ownBlock (.slice none 0 0))) : AlAt w p B S D L T r4 (some v) r7 W' := by
  have hb : Below W.heap.size W W' := ((Below.refl _ _).grown hg (Nat.le_refl _) (fun x e => by simp [Value.ownBlock] at e))
  have := h.below hb
  refine ⟨this.sa, this.f4, fun u e => by injection e with e; subst e; simpa using ho, this.f7, this.z, this.pb, h.off⟩
theorem AlAt.a8 (h : AlAt w p B S D L T r4 (some v) r7 W) {u : Value} (ho : W'.ownsRow B 92 7 u (L.length + T.length) (lcs L ++ lcs T)) (hg : W.grownBy W' v.ownBlock) : ∃ A c, u = .slice A (L ++ T).length c ∧ Ls W' W'.heap.size (.slice A (L ++ T).length c) (L ++ T) ∧ Below w.heap.size w W' := by
  obtain ⟨A, c, rfl⟩ := own_form ho
  have e : L.length + T.length = (L ++ T).length := by simp
  rw [e, ← lcs_app] at ho
  refine ⟨A, c, by rw [e], Ls.of_own ho, h.sa.bel.grown hg h.sa.bel.size (fun x e => ?_)⟩
  have h1 := ((h.f5 v rfl).lt x e).1
  have h2 := h.pb.1
  have h3 := h.sa.old
  omega
end
set_option maxHeartbeats 4000000 in
set_option maxRecDepth 20000 in
theorem rall_any (S : Sh) (D : Sx) (w : World) (hs : SR w w.heap.size S D) (h11 : (lsF S.cs S.hd S.sz).length ≤ 1000) (h12 : S.l.length ≤ 1000) :
    Calls Try.prog 70 #[sv S D] w (LsR S.al w) := by
  obtain ⟨i0, hi0, hz0⟩ := Option.map_eq_some_iff.1 info_msg
  simp only [Prod.mk.injEq] at hz0
  have HI := Lib.hid hi0
  have HZ := Lib.hid hz0
  have HRY := Lib.hid (fun W (k : SR W W.heap.size S D) => rready_any S D W k)
  have HLD := Lib.hid (fun W (k : SR W W.heap.size S D) => rleased_any S D W k h12)
  have HLT := Lib.hid (show (S.l.map Le.m).length ≤ 1000 by rw [List.length_map]; exact h12)
  unfold Sh.al
  generalize lsF S.cs S.hd S.sz = L at *
  generalize S.l.map Le.m = T at *
  have HLL := Lib.hid h11
  have H0 := Lib.hid (show AlAt w w.heap.size (w.heap.size + 1) S D L T none none none _ from ⟨SAt.start 32 hs, fun v e => (by cases e), fun v e => (by cases e), fun v e => (by cases e), World.ownsRow_nil _ _ _ _, ⟨Nat.lt_succ_self _, by simp⟩, fun q hq => hs.offs (by omega)⟩)
  clear hs hi0 hz0 h11 h12
  go_enter Try.func70, Try.ntmps70
  go_wp2_with fail
  obtain ⟨p, hp⟩ : ∃ p, p = w.heap.size := ⟨_, rfl⟩
  rw [← hp] at H0
  rw [← hp]
  obtain ⟨B, hB⟩ : ∃ B, B = p + 1 := ⟨_, rfl⟩
  rw [← hB] at H0
  clear hp hB
  have HP := Lib.hid H0.out.drew
  obtain ⟨t0, t1, t2, t3, t4, t5, t6, t7, tl⟩ := H0.out.sa.s8.facts
  go_region_law (first
    | (go_simp; go_at_call 75; (with_reducible refine (HRY.out _ HP.out.sa.sr).mono ?_); rintro e w4 ⟨A4, c4, rfl, hl, hb⟩; have HP := Lib.hid (HP.out.a4 hb hl); clear t0 t1 t2 t3 t4 t5 t6 t7 tl hl hb; obtain ⟨t0, t1, t2, t3, t4, t5, t6, t7, tl⟩ := HP.out.sa.s8.facts)
    | (go_simp; go_at_call 76; (with_reducible refine (HLD.out _ HP.out.sa.sr).mono ?_); rintro e w7 ⟨A7, c7, rfl, hl, hb⟩; have HP := Lib.hid (HP.out.a7 hb hl); clear t0 t1 t2 t3 t4 t5 t6 t7 tl hl hb; obtain ⟨t0, t1, t2, t3, t4, t5, t6, t7, tl⟩ := HP.out.sa.s8.facts)
    | (refine step_append_rd _ (by rfl) _ _ _ (by rfl) B 92 i0 _ 7 64 Try.underlying24 HI.out HZ.out.1 HZ.out.2.1 HZ.out.2.2 rfl (by omega) (.slice none 0 0) 0 [] (by rfl) HP.out.z _ A4 L.length c4 (lcs L) (by rfl) (HP.out.f4 _ rfl).rd (lcs_one L) (by have := HLL.out; unfold maxLen; omega) (by have := HLL.out; omega) HP.out.pb.2 ?_; intro v5 w5 ho hg _; have HP := Lib.hid (HP.out.a5 ho hg); clear t0 t1 t2 t3 t4 t5 t6 t7 tl ho hg; obtain ⟨t0, t1, t2, t3, t4, t5, t6, t7, tl⟩ := HP.out.sa.s8.facts)
    | (refine step_append_rd _ (by rfl) _ _ _ (by rfl) B 92 i0 _ 7 64 Try.underlying24 HI.out HZ.out.1 HZ.out.2.1 HZ.out.2.2 rfl (by omega) v5 L.length (lcs L) (by rfl) (HP.out.f5 _ rfl) _ A7 T.length c7 (lcs T) (by rfl) (HP.out.f7 _ rfl).rd (lcs_one T) (by have := HLL.out; have := HLT.out; unfold maxLen; omega) (by have := HLL.out; have := HLT.out; omega) HP.out.pb.2 ?_; intro v8 w8 ho hg _; have HQ := Lib.hid (HP.out.a8 ho hg); clear t0 t1 t2 t3 t4 t5 t6 t7 tl ho hg))
  all_goals
    obtain ⟨A8, c8, rfl, hl, hb⟩ := HQ.out
    have HF := Lib.hid (And.intro hl hb)
    clear hl hb HQ
    go_wp2
    go_ret
    exact ⟨A8, c8, rfl, HF.out.1, HF.out.2⟩
end Go.Proofs.Ytdilgeabcacbdaa
