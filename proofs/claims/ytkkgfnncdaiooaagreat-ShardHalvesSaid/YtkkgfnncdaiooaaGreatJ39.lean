/- What is proved here: Sid; shardqueueref07.Ready, Leased, All by contracts; the law's ids by a contract; Sgd. -/
import Derived.Test.YtkkgfnncdaiooaaGreatJ17
import Derived.Test.YtkkgfnncdaiooaaGreatJ29
import Derived.Test.YtkkgfnncdaiooaaGreatJ35
import Derived.Test.YtkkgfnncdaiooaaGreatJ18
import Derived.Deep.RegionLaw
import Derived.Test.YtkkgfnncdaiooaaGreatJ28
import Derived.Deep.RegionHeld3
import Derived.Deep.QuietTactic
import Derived.BigQuiet
import Derived.Test.YtkkgfnncdaiooaaGreatJ26
/- Plain: the sorted list of the IDs of messages, by insertion. -/
namespace Go.Proofs.YtkkgfnncdaiooaaGreat
open Go.RowKit
set_option linter.unusedVariables false

def insP (x : Int) (O : List Int) : Nat → Nat
  | 0 => 0
  | k + 1 => if O.getD k 0 > x then insP x O k else k + 1
theorem insP_le (x : Int) (O : List Int) : ∀ k, insP x O k ≤ k
  | 0 => Nat.le_refl _
  | k + 1 => by unfold insP; split; exact Nat.le_succ_of_le (insP_le x O k); exact Nat.le_refl _
theorem insP_yes {x : Int} {O : List Int} {k : Nat} (hk : k < O.length) (h : O[k] > x) : insP x O (k + 1) = insP x O k := by
  rw [insP, if_pos]; simpa [List.getD, hk] using h
theorem insP_no {x : Int} {O : List Int} {k : Nat} (hk : k < O.length) (h : ¬ O[k] > x) : insP x O (k + 1) = k + 1 := by
  rw [insP, if_neg]; simpa [List.getD, hk] using h
theorem insP_hi {x : Int} {O : List Int} : ∀ {k}, k ≤ O.length → ∀ j, insP x O k ≤ j → j < k → ∀ h : j < O.length, O[j] > x
  | 0, _, j, _, hj, _ => by omega
  | k + 1, hk, j, hi, hj, h => by
    by_cases hx : O[k]'(by omega) > x
    · rw [insP_yes (by omega) hx] at hi
      by_cases e : j = k
      · subst e; exact hx
      · exact insP_hi (by omega) j hi (by omega) h
    · rw [insP_no (by omega) hx] at hi
      omega
theorem insP_lo {x : Int} {O : List Int} : ∀ {k}, k ≤ O.length → 0 < insP x O k → ∀ h : insP x O k - 1 < O.length, O[insP x O k - 1] ≤ x
  | 0, _, h0, _ => by simp [insP] at h0
  | k + 1, hk, h0, h => by
    by_cases hx : O[k]'(by omega) > x
    · have e := insP_yes (show k < O.length by omega) hx
      have := insP_lo (x := x) (O := O) (k := k) (by omega) (by rw [← e]; exact h0) (by rw [← e]; exact h)
      simp only [e]
      exact this
    · have e := insP_no (show k < O.length by omega) hx
      simp only [e, Nat.add_sub_cancel]
      omega
def insA (x : Int) (O : List Int) : Nat := insP x O O.length
theorem insA_le (x : Int) (O : List Int) : insA x O ≤ O.length := insP_le _ _ _
def insI (x : Int) (O : List Int) : List Int := O.take (insA x O) ++ [x] ++ O.drop (insA x O)
theorem insI_len (x : Int) (O : List Int) : (insI x O).length = O.length + 1 := by
  have := insA_le x O
  unfold insI; simp; omega
theorem insI_perm (x : Int) (O : List Int) : (insI x O).Perm (x :: O) := by
  unfold insI
  refine (List.Perm.append_right _ (List.perm_append_comm)).trans ?_
  rw [List.append_assoc, List.take_append_drop]
  exact List.Perm.refl _
def SrtI (O : List Int) : Prop := O.Pairwise (· ≤ ·)
theorem SrtI.get {O : List Int} (h : SrtI O) {i j : Nat} (hj : j < O.length) (hij : i ≤ j) : O[i] ≤ O[j] := by
  rcases Nat.lt_or_eq_of_le hij with h1 | h1
  · exact List.pairwise_iff_getElem.1 h i j (by omega) hj h1
  · subst h1; exact Int.le_refl _
theorem insI_srt {x : Int} {O : List Int} (h : SrtI O) : SrtI (insI x O) := by
  have ha := insA_le x O
  have hlo : ∀ a ∈ O.take (insA x O), a ≤ x := by
    intro a hm
    obtain ⟨i, hi, rfl⟩ := List.getElem_of_mem hm
    have hi' : i < insA x O := by simp at hi; omega
    rw [List.getElem_take]
    have h1 := insP_lo (x := x) (O := O) (Nat.le_refl _) (show 0 < insP x O O.length by unfold insA at hi'; omega) (by unfold insA at hi' ha; omega)
    have h2 := h.get (i := i) (j := insP x O O.length - 1) (by unfold insA at hi' ha; omega) (by unfold insA at hi'; omega)
    omega
  have hhi : ∀ a ∈ O.drop (insA x O), x ≤ a := by
    intro a hm
    obtain ⟨i, hi, rfl⟩ := List.getElem_of_mem hm
    rw [List.getElem_drop]
    have := insP_hi (x := x) (O := O) (Nat.le_refl _) (insA x O + i) (by unfold insA; omega) (by simp at hi; omega) (by simp at hi; omega)
    omega
  unfold SrtI insI
  rw [List.append_assoc, List.pairwise_append]
  refine ⟨h.sublist (List.take_sublist _ _), ?_, ?_⟩
  · rw [List.singleton_append, List.pairwise_cons]
    exact ⟨hhi, h.sublist (List.drop_sublist _ _)⟩
  · intro a hm b hb
    have h1 := hlo a hm
    rcases List.mem_cons.1 (by simpa using hb) with rfl | hb
    · exact h1
    · exact Int.le_trans h1 (hhi b hb)
theorem srt_eq : ∀ {a b : List Int}, SrtI a → SrtI b → a.Perm b → a = b
  | [], b, _, _, hp => (List.Perm.nil_eq hp)
  | x :: a, [], _, _, hp => by have := hp.length_eq; simp at this
  | x :: a, y :: b, ha, hb, hp => by
    have ha' := List.pairwise_cons.1 ha
    have hb' := List.pairwise_cons.1 hb
    have h1 : x ≤ y := by
      rcases List.mem_cons.1 (hp.symm.subset (List.mem_cons_self ..)) with h | h
      · omega
      · exact ha'.1 _ h
    have h2 : y ≤ x := by
      rcases List.mem_cons.1 (hp.subset (List.mem_cons_self ..)) with h | h
      · omega
      · exact hb'.1 _ h
    obtain rfl : x = y := by omega
    rw [srt_eq (a := a) (b := b) ha'.2 hb'.2 ((List.perm_cons x).1 hp)]
def idsG (O : List Int) (L : List Msg) : List Int := L.foldl (fun o M => insI M.id o) O
def idsF (L : List Msg) : List Int := idsG [] L
theorem idsF_snoc {L : List Msg} {k : Nat} (h : k < L.length) : idsF (L.take (k + 1)) = insI L[k].id (idsF (L.take k)) := by
  unfold idsF idsG
  rw [← List.take_append_getElem h, List.foldl_append]
  rfl
theorem idsG_perm (L : List Msg) : ∀ O, (idsG O L).Perm (L.map Msg.id ++ O) := by
  induction L with
  | nil => intro O; exact List.Perm.refl _
  | cons M L ih =>
    intro O
    refine (ih (insI M.id O)).trans ?_
    refine (List.Perm.append_left _ (insI_perm M.id O)).trans ?_
    simp only [List.map_cons, List.cons_append]
    exact List.perm_middle
theorem idsG_srt (L : List Msg) : ∀ O, SrtI O → SrtI (idsG O L) := by
  induction L with
  | nil => intro O h; exact h
  | cons M L ih => intro O h; exact ih _ (insI_srt h)
theorem idsF_perm (L : List Msg) : (idsF L).Perm (L.map Msg.id) := by have := idsG_perm L []; simpa [idsF] using this
theorem idsF_srt (L : List Msg) : SrtI (idsF L) := idsG_srt L [] List.Pairwise.nil
theorem idsF_len (L : List Msg) : (idsF L).length = L.length := by rw [(idsF_perm L).length_eq, List.length_map]
theorem idsF_same {L L' : List Msg} (h : (L.map Msg.id).Perm (L'.map Msg.id)) : idsF L = idsF L' := srt_eq (idsF_srt L) (idsF_srt L') ((idsF_perm L).trans (h.trans (idsF_perm L').symm))
theorem idsF_one {L L' : List Msg} {x : Int} (h : (L.map Msg.id).Perm (x :: L'.map Msg.id)) : idsF L = insI x (idsF L') :=
  srt_eq (idsF_srt L) (insI_srt (idsF_srt L')) ((idsF_perm L).trans (h.trans ((List.Perm.cons x (idsF_perm L')).symm.trans (insI_perm x _).symm)))
theorem insI_at {x : Int} {O : List Int} {j : Nat} (hj : j < (insI x O).length) : (∃ h : j < O.length, j < insA x O ∧ (insI x O)[j] = O[j]) ∨ (j = insA x O ∧ (insI x O)[j] = x) ∨ (∃ h : j - 1 < O.length, insA x O < j ∧ (insI x O)[j] = O[j - 1]) := by
  have ha := insA_le x O
  have hl := insI_len x O
  rcases Nat.lt_trichotomy j (insA x O) with h | h | h
  · left
    refine ⟨by omega, h, ?_⟩
    simp only [insI]
    rw [List.getElem_append_left (by simp; omega), List.getElem_append_left (by simp; omega), List.getElem_take]
  · right; left
    refine ⟨h, ?_⟩
    simp only [insI]
    rw [List.getElem_append_left (by simp; omega), List.getElem_append_right (by simp; omega)]
    simp
  · right; right
    refine ⟨by omega, h, ?_⟩
    simp only [insI]
    rw [List.getElem_append_right (by simp; omega), List.getElem_drop]
    congr 1
    simp
    omega
end Go.Proofs.YtkkgfnncdaiooaaGreat
namespace Go.Proofs.YtkkgfnncdaiooaaGreat
open Go.RowKit
set_option linter.unusedVariables false

def LsR (l : List Msg) (w : World) (e : Ending) (w' : World) : Prop := ∃ A c, e = .returned (.slice A l.length c) ∧ Ls w' w'.heap.size (.slice A l.length c) l ∧ Below w.heap.size w w'
theorem Ls.upz {W W' : World} {L : List Msg} {v : Value} (h : Ls W W.heap.size v L) (hb : Below W.heap.size W W') : Ls W' W'.heap.size v L := (h.below hb).more hb.size
set_option maxHeartbeats 2000000 in
theorem rready_any (S : Sh) (D : Sx) (w : World) (hs : SR w w.heap.size S D) :
    Calls Tryz.prog 80 #[sv S D] w (LsR (lsF S.cs S.hd S.sz) w) := by
  have H0 := Lib.hid (SAt.start 33 hs)
  have HG := Lib.hid (fun p W (k : SAt w p S D W) => rlist_any D.A S.cs.length D.c S.cs S.hd S.sz W k.sr.ls)
  clear hs
  generalize lsF S.cs S.hd S.sz = L at *
  go_enter Tryz.func80, Tryz.ntmps80
  obtain ⟨t0, t1, t2, t3, t4, t5, t6, t7, tl⟩ := H0.out.s8.facts
  go_wp2_with fail
  clear t0 t1 t2 t3 t4 t5 t6 t7 tl
  refine (HG.out _ _ H0.out).mono ?_
  rintro e w2 ⟨v, rfl, hn, hl, hb⟩
  obtain ⟨A, c, rfl, _, _⟩ := hl.form
  have HL := Lib.hid hl
  have HB := Lib.hid (H0.out.below hb).bel
  clear hn hl hb
  go_wp2
  go_ret
  exact ⟨A, c, rfl, HL.out, HB.out⟩
theorem map_m_succ {l : List Le} {k : Nat} (h : k < l.length) : (l.take (k + 1)).map Le.m = (l.take k).map Le.m ++ [l[k].m] := by
  rw [← List.take_append_getElem h, List.map_append]
  rfl
set_option maxHeartbeats 4000000 in
set_option maxRecDepth 20000 in
theorem rleased_any (S : Sh) (D : Sx) (w : World) (hs : SR w w.heap.size S D) (h12 : S.l.length ≤ 1000) :
    Calls Tryz.prog 81 #[sv S D] w (LsR (S.l.map Le.m) w) := by
  obtain ⟨i0, hi0, hz0⟩ := Option.map_eq_some_iff.1 info_msg
  simp only [Prod.mk.injEq] at hz0
  have HI := Lib.hid hi0
  have HZ := Lib.hid hz0
  have H0 := Lib.hid (SAt.start 33 hs)
  have HE := Lib.hid (show S.l.map Le.m = (S.l.take S.l.length).map Le.m by rw [List.take_length])
  have hL : S.l.length ≤ 9223372036854775807 := by omega
  have HLN := Lib.hid h12
  have HRS := Lib.hid hs
  clear hs hi0 hz0 h12
  go_enter Tryz.func81, Tryz.ntmps81
  go_wp2
  obtain ⟨p, hp⟩ : ∃ p, p = w.heap.size := ⟨_, rfl⟩
  rw [← hp] at H0
  rw [← hp]
  clear hp
  generalize w.alloc (.cells #[.bool S.lv, .int .i64 S.lo, .int .i64 S.hi, .slice D.A S.cs.length D.c, .int .i64 S.hd, .int .i64 S.sz, .slice D.A2 S.l.length D.c2, .slice D.A3 S.h.length D.c3] 33) = w1 at *
  go_loopw [3, 4] (fun lv i wr => ∃ k : Nat, k ≤ S.l.length ∧ i = .int .i64 k ∧ SAt w p S D wr ∧ w1.heap.size ≤ wr.heap.size ∧ wr.ownsRow w1.heap.size 57 7 lv ((S.l.take k).map Le.m).length (lcs ((S.l.take k).map Le.m))) (fun _ i _ => S.l.length - (intOf i).toNat)
  case atStart => exact ⟨0, Nat.zero_le _, rfl, H0.out, Nat.le_refl _, World.ownsRow_nil _ _ _ _⟩
  case round =>
    obtain ⟨k, hk, rfl, hsa, hsz, how⟩ := hrel
    have HS := Lib.hid hsa
    have HZZ := Lib.hid hsz
    have HO := Lib.hid how
    clear hsa hsz how
    obtain ⟨A5, c5, rfl⟩ := own_form HO.out
    by_cases hlt : k < S.l.length
    · have HMS := Lib.hid (map_m_succ hlt)
      have HKL := Lib.hid (show ((S.l.take k).map Le.m).length ≤ 1000 by rw [List.length_map, List.length_take]; have := HLN.out; omega)
      obtain ⟨b, o, hA2, hbl, hc⟩ := HS.out.sr.el.at_ hlt
      obtain ⟨x0, x1, x2, x3, x4, x5, x6, x7⟩ := hc
      generalize ((S.l.take k).map Le.m) = T at *
      generalize S.l[k] = X at *
      have HOA := Lib.hid (HO.out.alloc (.cells #[.int .i64 X.m.id, .int .i64 X.m.rt, .int .i64 X.m.ep, .int .i64 X.m.ct, .int .i64 X.m.gn, .int .i64 X.m.st, .string X.m.bd] 57))
      have HSA := Lib.hid (HS.out.alloc (.cells #[.int .i64 X.m.id, .int .i64 X.m.rt, .int .i64 X.m.ep, .int .i64 X.m.ct, .int .i64 X.m.gn, .int .i64 X.m.st, .string X.m.bd] 57))
      have HCX := Lib.hid (msg_row wr X.m 57)
      have HPW := Lib.hid (show p < w1.heap.size from H0.out.lt)
      obtain ⟨t0, t1, t2, t3, t4, t5, t6, t7, tl⟩ := HS.out.s8.facts
      rw [hA2] at t6
      go_wp2_with (at_builtin; refine wpList_append_lies _ rfl (.tmp 13) (.tmp 21) 25 rfl w1.heap.size 57 i0 _ 7 64 Tryz.underlying25 HI.out HZ.out.1 HZ.out.2.1 HZ.out.2.2 rfl (by omega) (.slice A5 T.length c5) T.length (lcs T) rfl HOA.out ⟨wr.heap.size, 0, none⟩ 1 1 X.m.l rfl (by simp [Msg.l_len]) (fun j u hu => by have := HCX.out j u hu; simpa using this) X.m.l_one (by omega) (by have := HKL.out; unfold maxLen; omega) (by have := HKL.out; omega) (by have := HZZ.out; simp; omega) _ rfl ?_; intro g cp w8 hown hgrow hat hglt)
      have HO8 := Lib.hid (own_end hown)
      have HS8 := Lib.hid (HSA.out.grown hgrow (fun q e => ⟨HRS.out.offs (by have h1 := (HOA.out.lt q e).1; have h2 := HPW.out; have h3 := HS.out.old; omega), by have := (HOA.out.lt q e).1; have := HPW.out; omega⟩))
      have HZ8 := Lib.hid (show w1.heap.size ≤ w8.heap.size by have := hgrow.size; simp at this; have := HZZ.out; omega)
      clear hown hgrow hat hglt x0 x1 x2 x3 x4 x5 x6 x7 t0 t1 t2 t3 t4 t5 t6 t7 tl
      go_wp2
      go_roundw
      case rel => exact ⟨k + 1, by omega, by go_num, HS8.out, HZ8.out, by rw [HMS.out]; exact HO8.out⟩
      case measure => simp [intOf]; omega
    · obtain rfl : k = S.l.length := by omega
      obtain ⟨t0, t1, t2, t3, t4, t5, t6, t7, tl⟩ := HS.out.s8.facts
      go_wp2
      go_ret
      exact ⟨A5, c5, by rw [HE.out]; rfl, by rw [HE.out]; exact Ls.of_own HO.out, HS.out.bel⟩
structure AlAt (w : World) (p B : Nat) (S : Sh) (D : Sx) (L T : List Msg) (r4 r5 r7 : Option Value) (W : World) : Prop where
  sa : SAt w p S D W
  f4 : ∀ v, r4 = some v → Ls W W.heap.size v L
  f5 : ∀ v, r5 = some v → W.ownsRow B 57 7 v L.length (lcs L)
  f7 : ∀ v, r7 = some v → Ls W W.heap.size v T
  z : W.ownsRow B 57 7 (.slice none 0 0) 0 []
  pb : p < B ∧ B ≤ W.heap.size
  off : ∀ q, B ≤ q → SOff S D q
section
variable {w W W' : World} {p B : Nat} {S : Sh} {D : Sx} {L T : List Msg} {r4 r5 r7 : Option Value} {v : Value}
theorem AlAt.below (h : AlAt w p B S D L T r4 r5 r7 W) (hb : Below W.heap.size W W') : AlAt w p B S D L T r4 r5 r7 W' :=
  ⟨h.sa.below hb, fun v e => (h.f4 v e).upz hb, fun v e => own_below (h.f5 v e) hb, fun v e => (h.f7 v e).upz hb, World.ownsRow_nil _ _ _ _, ⟨h.pb.1, Nat.le_trans h.pb.2 hb.size⟩, h.off⟩
theorem AlAt.drew (h : AlAt w p B S D L T r4 r5 r7 W) : AlAt w p B S D L T r4 r5 r7 W.drew := h.below (Below.refl _ _).drew
theorem AlAt.a4 (h : AlAt w p B S D L T r4 r5 r7 W) (hb : Below W.heap.size W W') (hl : Ls W' W'.heap.size v L) : AlAt w p B S D L T (some v) r5 r7 W' :=
  ⟨(h.below hb).sa, fun u e => by injection e with e; subst e; exact hl, (h.below hb).f5, (h.below hb).f7, World.ownsRow_nil _ _ _ _, (h.below hb).pb, h.off⟩
theorem AlAt.a7 (h : AlAt w p B S D L T r4 r5 r7 W) (hb : Below W.heap.size W W') (hl : Ls W' W'.heap.size v T) : AlAt w p B S D L T r4 r5 (some v) W' :=
  ⟨(h.below hb).sa, (h.below hb).f4, (h.below hb).f5, fun u e => by injection e with e; subst e; exact hl, World.ownsRow_nil _ _ _ _, (h.below hb).pb, h.off⟩
theorem AlAt.a5 (h : AlAt w p B S D L T r4 none r7 W) (ho : W'.ownsRow B 57 7 v (0 + L.length) ([] ++ lcs L)) (hg : W.grownBy W' (Value.ownBlock (.slice none 0 0))) : AlAt w p B S D L T r4 (some v) r7 W' := by
  have hb : Below W.heap.size W W' := ((Below.refl _ _).grown hg (Nat.le_refl _) (fun x e => by simp [Value.ownBlock] at e))
  have := h.below hb
  refine ⟨this.sa, this.f4, fun u e => by injection e with e; subst e; simpa using ho, this.f7, this.z, this.pb, h.off⟩
theorem AlAt.a8 (h : AlAt w p B S D L T r4 (some v) r7 W) {u : Value} (ho : W'.ownsRow B 57 7 u (L.length + T.length) (lcs L ++ lcs T)) (hg : W.grownBy W' v.ownBlock) : ∃ A c, u = .slice A (L ++ T).length c ∧ Ls W' W'.heap.size (.slice A (L ++ T).length c) (L ++ T) ∧ Below w.heap.size w W' := by
  obtain ⟨A, c, rfl⟩ := own_form ho
  have e : L.length + T.length = (L ++ T).length := by simp
  rw [e, ← lcs_app] at ho
  refine ⟨A, c, by rw [e], Ls.of_own ho, h.sa.bel.grown hg h.sa.bel.size (fun x e => ?_)⟩
  have h1 := ((h.f5 v rfl).lt x e).1
  have h2 := h.pb.1
  have h3 := h.sa.old
  omega
end
set_option maxHeartbeats 4000000 in
set_option maxRecDepth 20000 in
theorem rall_any (S : Sh) (D : Sx) (w : World) (hs : SR w w.heap.size S D) (h11 : (lsF S.cs S.hd S.sz).length ≤ 1000) (h12 : S.l.length ≤ 1000) :
    Calls Tryz.prog 27 #[sv S D] w (LsR S.al w) := by
  obtain ⟨i0, hi0, hz0⟩ := Option.map_eq_some_iff.1 info_msg
  simp only [Prod.mk.injEq] at hz0
  have HI := Lib.hid hi0
  have HZ := Lib.hid hz0
  have HRY := Lib.hid (fun W (k : SR W W.heap.size S D) => rready_any S D W k)
  have HLD := Lib.hid (fun W (k : SR W W.heap.size S D) => rleased_any S D W k h12)
  have HLT := Lib.hid (show (S.l.map Le.m).length ≤ 1000 by rw [List.length_map]; exact h12)
  unfold Sh.al
  generalize lsF S.cs S.hd S.sz = L at *
  generalize S.l.map Le.m = T at *
  have HLL := Lib.hid h11
  have H0 := Lib.hid (show AlAt w w.heap.size (w.heap.size + 1) S D L T none none none _ from ⟨SAt.start 33 hs, fun v e => (by cases e), fun v e => (by cases e), fun v e => (by cases e), World.ownsRow_nil _ _ _ _, ⟨Nat.lt_succ_self _, by simp⟩, fun q hq => hs.offs (by omega)⟩)
  clear hs hi0 hz0 h11 h12
  go_enter Tryz.func27, Tryz.ntmps27
  go_wp2_with fail
  obtain ⟨p, hp⟩ : ∃ p, p = w.heap.size := ⟨_, rfl⟩
  rw [← hp] at H0
  rw [← hp]
  obtain ⟨B, hB⟩ : ∃ B, B = p + 1 := ⟨_, rfl⟩
  rw [← hB] at H0
  clear hp hB
  have HP := Lib.hid H0.out.drew
  obtain ⟨t0, t1, t2, t3, t4, t5, t6, t7, tl⟩ := H0.out.sa.s8.facts
  go_region_law (first
    | (go_simp; go_at_call 80; (with_reducible refine (HRY.out _ HP.out.sa.sr).mono ?_); rintro e w4 ⟨A4, c4, rfl, hl, hb⟩; have HP := Lib.hid (HP.out.a4 hb hl); clear t0 t1 t2 t3 t4 t5 t6 t7 tl hl hb; obtain ⟨t0, t1, t2, t3, t4, t5, t6, t7, tl⟩ := HP.out.sa.s8.facts)
    | (go_simp; go_at_call 81; (with_reducible refine (HLD.out _ HP.out.sa.sr).mono ?_); rintro e w7 ⟨A7, c7, rfl, hl, hb⟩; have HP := Lib.hid (HP.out.a7 hb hl); clear t0 t1 t2 t3 t4 t5 t6 t7 tl hl hb; obtain ⟨t0, t1, t2, t3, t4, t5, t6, t7, tl⟩ := HP.out.sa.s8.facts)
    | (refine step_append_rd _ (by rfl) _ _ _ (by rfl) B 57 i0 _ 7 64 Tryz.underlying25 HI.out HZ.out.1 HZ.out.2.1 HZ.out.2.2 rfl (by omega) (.slice none 0 0) 0 [] (by rfl) HP.out.z _ A4 L.length c4 (lcs L) (by rfl) (HP.out.f4 _ rfl).rd (lcs_one L) (by have := HLL.out; unfold maxLen; omega) (by have := HLL.out; omega) HP.out.pb.2 ?_; intro v5 w5 ho hg _; have HP := Lib.hid (HP.out.a5 ho hg); clear t0 t1 t2 t3 t4 t5 t6 t7 tl ho hg; obtain ⟨t0, t1, t2, t3, t4, t5, t6, t7, tl⟩ := HP.out.sa.s8.facts)
    | (refine step_append_rd _ (by rfl) _ _ _ (by rfl) B 57 i0 _ 7 64 Tryz.underlying25 HI.out HZ.out.1 HZ.out.2.1 HZ.out.2.2 rfl (by omega) v5 L.length (lcs L) (by rfl) (HP.out.f5 _ rfl) _ A7 T.length c7 (lcs T) (by rfl) (HP.out.f7 _ rfl).rd (lcs_one T) (by have := HLL.out; have := HLT.out; unfold maxLen; omega) (by have := HLL.out; have := HLT.out; omega) HP.out.pb.2 ?_; intro v8 w8 ho hg _; have HQ := Lib.hid (HP.out.a8 ho hg); clear t0 t1 t2 t3 t4 t5 t6 t7 tl ho hg))
  all_goals
    obtain ⟨A8, c8, rfl, hl, hb⟩ := HQ.out
    have HF := Lib.hid (And.intro hl hb)
    clear hl hb HQ
    go_wp2
    go_ret
    exact ⟨A8, c8, rfl, HF.out.1, HF.out.2⟩
end Go.Proofs.YtkkgfnncdaiooaaGreat
namespace Go.Proofs.YtkkgfnncdaiooaaGreat
open Go.RowKit
set_option linter.unusedVariables false

def NrR (l : List Int) (w : World) (e : Ending) (w' : World) : Prop := ∃ A c, e = .returned (.slice A l.length c) ∧ Nr w' w'.heap.size (.slice A l.length c) l ∧ Below w.heap.size w w' ∧ Nw w.heap.size A
structure IdsA (w : World) (B : Nat) (v : Value) (L : List Msg) (o : Value) (O : List Int) (W : World) : Prop where
  ls : Ls W B v L
  own : W.ownsRow B 3 1 o O.length (O.map i64v)
  bel : Below w.heap.size w W
  ob : w.heap.size ≤ B ∧ B ≤ W.heap.size
structure IdsX (w : World) (B : Nat) (v : Value) (L : List Msg) (o : Value) (O : List Int) (a : Nat) (x : Int) (r37 r44 : Option Value) (r43 : Option Nat) (W : World) : Prop where
  at_ : IdsA w B v L o O W
  z : W.ownsRow B 3 1 (.slice none 0 0) 0 []
  f37 : ∀ u, r37 = some u → W.ownsRow B 3 1 u a ((O.take a).map i64v) ∧ ∀ q, u.ownBlock = some q → o.ownBlock ≠ some q
  f44 : ∀ u, r44 = some u → W.ownsRow B 3 1 u (a + 1) ((O.take a ++ [x]).map i64v) ∧ ∀ q, u.ownBlock = some q → o.ownBlock ≠ some q
  f43 : ∀ b, r43 = some b → W.cell? ⟨b, 0, none⟩ = some (.int .i64 x) ∧ b < W.heap.size
theorem belN (w : World) (n : Nat) : Below w.heap.size w (w.drewN n) := ⟨rfl, rfl, rfl, Nat.le_refl _, fun _ _ => rfl⟩
section
variable {w W W' : World} {B : Nat} {v o u : Value} {L : List Msg} {O : List Int} {a : Nat} {x : Int} {r37 r44 : Option Value} {r43 : Option Nat}
theorem IdsA.below (h : IdsA w B v L o O W) (hb : Below W.heap.size W W') : IdsA w B v L o O W' :=
  ⟨h.ls.below (hb.mono h.ob.2), own_below h.own hb, h.bel.trans (hb.mono h.bel.size), h.ob.1, Nat.le_trans h.ob.2 hb.size⟩
theorem IdsX.below (h : IdsX w B v L o O a x r37 r44 r43 W) (hb : Below W.heap.size W W') : IdsX w B v L o O a x r37 r44 r43 W' :=
  ⟨h.at_.below hb, World.ownsRow_nil _ _ _ _, fun u e => ⟨own_below (h.f37 u e).1 hb, (h.f37 u e).2⟩, fun u e => ⟨own_below (h.f44 u e).1 hb, (h.f44 u e).2⟩, fun b e => ⟨(hb.cell (p := ⟨b, 0, none⟩) (h.f43 b e).2).trans (h.f43 b e).1, Nat.lt_of_lt_of_le (h.f43 b e).2 hb.size⟩⟩
theorem IdsX.start (h : IdsA w B v L o O W) : IdsX w B v L o O a x none none none W := ⟨h, World.ownsRow_nil _ _ _ _, fun u e => (by cases e), fun u e => (by cases e), fun u e => (by cases e)⟩
theorem IdsX.drew (h : IdsX w B v L o O a x r37 r44 r43 W) : IdsX w B v L o O a x r37 r44 r43 W.drew := h.below (Below.refl _ _).drew
theorem IdsX.a43 (h : IdsX w B v L o O a x r37 r44 none W) (t : TypeId) : IdsX w B v L o O a x r37 r44 (some W.heap.size) (W.alloc (.cells #[.int .i64 x] t)) := by
  have := h.below ((Below.refl _ _).alloc (Nat.le_refl _) (.cells #[.int .i64 x] t))
  exact ⟨this.at_, this.z, this.f37, this.f44, fun b e => by injection e with e; subst e; exact ⟨by simp [go_sem], by simp⟩⟩
theorem IdsX.a37 (h : IdsX w B v L o O a x none r44 r43 W) (ho : W'.ownsRow B 3 1 u (0 + a) ([] ++ (O.take a).map i64v)) (hg : W.grownBy W' (Value.ownBlock (.slice none 0 0))) (hat : u.ownBlock = Value.ownBlock (.slice none 0 0) ∨ u.ownBlock = some W.heap.size) : IdsX w B v L o O a x (some u) r44 r43 W' := by
  have hb : Below W.heap.size W W' := ((Below.refl _ _).grown hg (Nat.le_refl _) (fun x e => by simp [Value.ownBlock] at e))
  have := h.below hb
  refine ⟨this.at_, this.z, fun u' e => ?_, this.f44, this.f43⟩
  injection e with e; subst e
  refine ⟨by simpa using ho, fun q hq e => ?_⟩
  rcases hat with h' | h'
  · rw [h'] at hq; simp [Value.ownBlock] at hq
  · rw [h'] at hq; injection hq with hq; have := (h.at_.own.lt q e).2; omega
theorem IdsX.a44 {b : Nat} (h : IdsX w B v L o O a x (some u) none (some b) W) {y : Value} (ho : W'.ownsRow B 3 1 y (a + 1) ((O.take a).map i64v ++ [i64v x])) (hg : W.grownBy W' u.ownBlock) (hat : y.ownBlock = u.ownBlock ∨ y.ownBlock = some W.heap.size) : IdsX w B v L o O a x none (some y) none W' := by
  obtain ⟨h1, h2⟩ := h.f37 u rfl
  have hk := h.at_
  refine ⟨⟨hk.ls.keep fun p hp => hg.cell_far p (by have := hk.ob.2; omega) (fun e => by have := (h1.lt _ e.symm).1; omega), hk.own.kept hg ?_, hk.bel.grown hg hk.bel.size (fun q e => Nat.le_trans hk.ob.1 (h1.lt q e).1), hk.ob.1, Nat.le_trans hk.ob.2 hg.size⟩, World.ownsRow_nil _ _ _ _, fun u e => (by cases e), fun u' e => ?_, fun u e => (by cases e)⟩
  · cases e : o.ownBlock with
    | none => exact .inl rfl
    | some q => right; intro e'; exact h2 q e'.symm e
  · injection e with e; subst e
    refine ⟨by rw [List.map_append]; exact ho, fun q hq e => ?_⟩
    rcases hat with h' | h'
    · exact h2 q (h'.symm.trans hq) e
    · rw [h'] at hq; injection hq with hq; have := (hk.own.lt q e).2; omega
theorem IdsX.a48 (h : IdsX w B v L o O a x r37 (some u) r43 W) {y : Value} (ha : a ≤ O.length) (ho : W'.ownsRow B 3 1 y (a + 1 + (O.length - a)) ((O.take a ++ [x]).map i64v ++ (O.drop a).map i64v)) (hg : W.grownBy W' u.ownBlock) : IdsA w B v L y (O.take a ++ [x] ++ O.drop a) W' := by
  obtain ⟨h1, h2⟩ := h.f44 u rfl
  have hk := h.at_
  refine ⟨hk.ls.keep fun p hp => hg.cell_far p (by have := hk.ob.2; omega) (fun e => by have := (h1.lt _ e.symm).1; omega), ?_, hk.bel.grown hg hk.bel.size (fun q e => Nat.le_trans hk.ob.1 (h1.lt q e).1), hk.ob.1, Nat.le_trans hk.ob.2 hg.size⟩
  rw [List.map_append]
  have e : (O.take a ++ [x] ++ O.drop a).length = a + 1 + (O.length - a) := by simp; omega
  rw [e]
  exact ho
theorem own_take {A : Option Addr} {c : Nat} (h : W.ownsRow B 3 1 (.slice A O.length c) O.length (O.map i64v)) (ha : a ≤ O.length) : Rd W W.heap.size 1 A a ((O.take a).map i64v) := by
  have hr := (Nr.of_own h)
  obtain ⟨_, _, e, _, _, hr⟩ := hr
  injection e with e1 e2 e3
  subst e1; subst e3
  refine ⟨by simp; omega, fun h0 => ?_⟩
  obtain ⟨b, o, rfl, hb, hc⟩ := hr.2 (by omega)
  refine ⟨b, o, rfl, hb, fun j u hu => hc j u ?_⟩
  rw [List.map_take, List.getElem?_take] at hu
  split at hu
  · exact hu
  · cases hu
theorem own_drop {A : Option Addr} {c : Nat} (h : W.ownsRow B 3 1 (.slice A O.length c) O.length (O.map i64v)) (ha : a ≤ O.length) : Rd W W.heap.size 1 (if c = a then A else A.map (·.add a)) (O.length - a) ((O.drop a).map i64v) := by
  have hr := (Nr.of_own h)
  obtain ⟨_, _, e, hl, _, hr⟩ := hr
  injection e with e1 e2 e3
  subst e1; subst e3
  refine ⟨by simp, fun h0 => ?_⟩
  obtain ⟨b, o, rfl, hb, hc⟩ := hr.2 (by omega)
  rw [if_neg (by omega)]
  refine ⟨b, o + a, by rw [Option.map_some, add_mk], hb, fun j u hu => ?_⟩
  rw [Nat.add_assoc]
  refine hc _ u ?_
  rw [List.map_drop, List.getElem?_drop] at hu
  exact hu
theorem IdsX.cell {b o c k : Nat} (h : IdsX w B (.slice (some ⟨b, o, none⟩) L.length c) L v O a x r37 r44 r43 W) (hk : k < L.length) (hX : L[k].id = x) : W.cell? ⟨b, o + k * 7, none⟩ = some (.int .i64 x) := by
  obtain ⟨b', o', hbo, _, x0, _⟩ := h.at_.ls.at_ hk
  injection hbo with hbo
  injection hbo with h1 h2
  subst h1; subst h2
  rw [← hX]; exact x0
theorem IdsA.cell {b o c k : Nat} (h : IdsA w B (.slice (some ⟨b, o, none⟩) L.length c) L v O W) (hk : k < L.length) (hX : L[k].id = x) : W.cell? ⟨b, o + k * 7, none⟩ = some (.int .i64 x) := by
  obtain ⟨b', o', hbo, _, x0, _⟩ := h.ls.at_ hk
  injection hbo with hbo
  injection hbo with h1 h2
  subst h1; subst h2
  rw [← hX]; exact x0
theorem i64v_one (l : List Int) : ∀ u ∈ l.map i64v, u.oneCell' = true := by
  intro u hu
  obtain ⟨z, _, rfl⟩ := List.mem_map.1 hu
  rfl
theorem one_rd {b : Nat} (h : W.cell? ⟨b, 0, none⟩ = some (.int .i64 x) ∧ b < W.heap.size) : Rd W W.heap.size 1 (some ⟨b, 0, none⟩) 1 [i64v x] :=
  ⟨rfl, fun _ => ⟨b, 0, rfl, h.2, fun j u hu => by
    match j, hu with
    | 0, hu => simp at hu; subst hu; exact h.1
    | j + 1, hu => simp at hu⟩⟩
end
set_option maxHeartbeats 800000 in
set_option maxRecDepth 20000 in
theorem ids_any (S : Sh) (D : Sx) (w : World) (hs : SR w w.heap.size S D) (h11 : (lsF S.cs S.hd S.sz).length ≤ 1000) (h12 : S.l.length ≤ 1000) :
    Calls Tryz.prog 11 #[sv S D] w (NrR (idsF S.al) w) := by
  obtain ⟨i0, hi0, hz0⟩ := Option.map_eq_some_iff.1 info_int5
  simp only [Prod.mk.injEq] at hz0
  have HI := Lib.hid hi0
  have HZ := Lib.hid hz0
  have HAL := Lib.hid (fun p W (k : SAt w p S D W) => rall_any S D W k.sr h11 h12)
  have HLN := Lib.hid (show S.al.length ≤ 2000 by unfold Sh.al; rw [List.length_append, List.length_map]; omega)
  generalize S.al = L at *
  have H0 := Lib.hid (SAt.start 33 hs)
  clear hs hi0 hz0 h11 h12
  go_enter Tryz.func11, Tryz.ntmps11
  obtain ⟨t0, t1, t2, t3, t4, t5, t6, t7, tl⟩ := H0.out.s8.facts
  go_wp2_with fail
  clear t0 t1 t2 t3 t4 t5 t6 t7 tl
  refine (HAL.out _ _ H0.out).mono ?_
  rintro e w2 ⟨A, c, rfl, hl, hb⟩
  have HA := Lib.hid (show IdsA w w2.heap.size (.slice A L.length c) L (.slice none 0 0) (idsF (L.take 0)) w2 from ⟨hl, World.ownsRow_nil _ _ _ _, (H0.out.below hb).bel, (H0.out.below hb).bel.size, Nat.le_refl _⟩)
  clear hl hb H0
  obtain ⟨B, hB⟩ : ∃ B, B = w2.heap.size := ⟨_, rfl⟩
  rw [← hB] at HA
  clear hB
  have hL : L.length ≤ 9223372036854775807 := by have := HLN.out; omega
  go_wp2
  go_loopw [3, 5] (fun o i wr => ∃ k : Nat, k ≤ L.length ∧ i = .int .i64 k ∧ IdsA w B (.slice A L.length c) L o (idsF (L.take k)) wr) (fun _ i _ => L.length - (intOf i).toNat)
  case atStart => exact ⟨0, Nat.zero_le _, rfl, HA.out⟩
  case round =>
    clear HA
    obtain ⟨k, hk, rfl, hh⟩ := hrel
    have HH := Lib.hid hh
    clear hh
    obtain ⟨A5, c5, rfl⟩ := own_form HH.out.own
    by_cases hlt : k < L.length
    · have HSN := Lib.hid (idsF_snoc hlt)
      have HOL := Lib.hid (show (idsF (L.take k)).length ≤ 2000 by rw [idsF_len, List.length_take]; have := HLN.out; omega)
      obtain ⟨b, o, rfl, hbl, x0, x1, x2, x3, x4, x5, x6⟩ := HH.out.ls.at_ hlt
      clear x1 x2 x3 x4 x5 x6
      generalize idsF (L.take k) = O at *
      obtain ⟨X, hX⟩ : ∃ X, X = L[k].id := ⟨_, rfl⟩
      have hX' := hX.symm
      rw [hX'] at HSN x0
      have HBL := Lib.hid hbl
      clear hbl hX
      have hol : O.length ≤ 9223372036854775807 := by have := HOL.out; omega
      go_wp2
      go_loopw [6] (fun at_ ws => ∃ a : Nat, a ≤ O.length ∧ at_ = .int .i64 a ∧ Hid (insP X O a = insA X O) ∧ Hid (IdsA w B (.slice (some ⟨b, o, none⟩) L.length c) L (.slice A5 O.length c5) O ws)) (fun at_ _ => (intOf at_).toNat)
      case atStart => exact ⟨O.length, Nat.le_refl _, rfl, Lib.hid rfl, HH⟩
      case round =>
        obtain ⟨a, ha, rfl, HPP, HW⟩ := hrel
        obtain ⟨b', o', hbo, hbl, x0, x1, x2, x3, x4, x5, x6⟩ := HW.out.ls.at_ hlt
        injection hbo with hbo
        injection hbo with hb1 ho1
        subst hb1; subst ho1
        clear x1 x2 x3 x4 x5 x6
        rw [hX'] at x0
        rcases Nat.eq_zero_or_pos a with ha0 | ha0
        · have hd : decide (0 < a) = false := by simp [ha0]
          have HPA := Lib.hid (show insA X O = a by rw [← HPP.out, ha0]; rfl)
          clear HPP ha0
          go_wp2
          go_quiet (fail)
          go_wp2
          have HAX := Lib.hid (show a ≤ O.length from ha)
          have HW0 := Lib.hid (HW.out.below (belN _ nq))
          generalize wr.drewN nq = W0 at *
          have HP := Lib.hid (show IdsX w B (.slice (some ⟨b, o, none⟩) L.length c) L (.slice A5 O.length c5) O a X none none none W0.drew from (IdsX.start HW0.out).drew)
          have HP0 := Lib.hid (show IdsX w B (.slice (some ⟨b, o, none⟩) L.length c) L (.slice A5 O.length c5) O a X none none none W0 from IdsX.start HW0.out)
          have hoc := (Nr.of_own HW0.out.own).len
          have hc1 : (a : Int) ≤ (c5 : Int) := by omega
          have hc2 : (a : Int) ≤ (O.length : Int) := by omega
          have hc3 : (c5 : Int) ≤ 9223372036854775807 := by have := hoc.2.2; unfold maxLen at this; omega
          have hc4 : (O.length : Int) ≤ (c5 : Int) := by omega
          clear hoc x0
          have HX0 := Lib.hid (HP.out.cell hlt hX')
          go_region_held3 (fun W => W.cell? ⟨b, o + k * 7, none⟩ = some (.int .i64 X))
            (first | with_reducible exact HQ.out.cell hlt hX' | with_reducible exact HP.out.cell hlt hX' | with_reducible exact (HP.out.a43 3).cell hlt hX' | with_reducible exact (HP0.out.a43 3).drew.cell hlt hX')
            (first
            | (refine step_append_rd _ (by rfl) _ _ _ (by rfl) B 3 i0 _ 1 8 Tryz.underlying22 HI.out HZ.out.1 HZ.out.2.1 HZ.out.2.2 rfl (by omega) (.slice none 0 0) 0 [] (by rfl) HP.out.z _ A5 a c5 ((O.take a).map i64v) (by rfl) (own_take HP.out.at_.own HAX.out) (i64v_one _) (by have := HOL.out; have := HAX.out; unfold maxLen; omega) (by have := HOL.out; have := HAX.out; omega) HP.out.at_.ob.2 ?_; intro v37 w37 ho hg hat; have HP := Lib.hid (HP.out.a37 ho hg hat); clear ho hg hat)
            | (have HP := Lib.hid (HP.out.a43 3); refine step_append_rd _ (by rfl) _ _ _ (by rfl) B 3 i0 _ 1 8 Tryz.underlying22 HI.out HZ.out.1 HZ.out.2.1 HZ.out.2.2 rfl (by omega) (.slice none 0 0) 0 [] (by rfl) HP.out.z _ A5 a c5 ((O.take a).map i64v) (by rfl) (own_take HP.out.at_.own HAX.out) (i64v_one _) (by have := HOL.out; have := HAX.out; unfold maxLen; omega) (by have := HOL.out; have := HAX.out; omega) HP.out.at_.ob.2 ?_; intro v37 w37 ho hg hat; have HP := Lib.hid (HP.out.a37 ho hg hat); clear ho hg hat)
            | (have HP := Lib.hid (HP0.out.a43 3).drew; refine step_append_rd _ (by rfl) _ _ _ (by rfl) B 3 i0 _ 1 8 Tryz.underlying22 HI.out HZ.out.1 HZ.out.2.1 HZ.out.2.2 rfl (by omega) (.slice none 0 0) 0 [] (by rfl) HP.out.z _ A5 a c5 ((O.take a).map i64v) (by rfl) (own_take HP.out.at_.own HAX.out) (i64v_one _) (by have := HOL.out; have := HAX.out; unfold maxLen; omega) (by have := HOL.out; have := HAX.out; omega) HP.out.at_.ob.2 ?_; intro v37 w37 ho hg hat; have HP := Lib.hid (HP.out.a37 ho hg hat); clear ho hg hat)
            | (refine step_append_rd _ (by rfl) _ _ _ (by rfl) B 3 i0 _ 1 8 Tryz.underlying22 HI.out HZ.out.1 HZ.out.2.1 HZ.out.2.2 rfl (by omega) v37 a ((O.take a).map i64v) (by rfl) (HP.out.f37 _ rfl).1 _ (some ⟨_, 0, none⟩) 1 1 [i64v X] (by rfl) (one_rd (HP.out.f43 _ rfl)) (i64v_one [X]) (by have := HOL.out; have := HAX.out; unfold maxLen; omega) (by have := HOL.out; have := HAX.out; omega) HP.out.at_.ob.2 ?_; intro v44 w44 ho hg hat; have HP := Lib.hid (HP.out.a44 ho hg hat); clear ho hg hat)
            | (have HP := Lib.hid (HP.out.a43 3); refine step_append_rd _ (by rfl) _ _ _ (by rfl) B 3 i0 _ 1 8 Tryz.underlying22 HI.out HZ.out.1 HZ.out.2.1 HZ.out.2.2 rfl (by omega) v37 a ((O.take a).map i64v) (by rfl) (HP.out.f37 _ rfl).1 _ (some ⟨_, 0, none⟩) 1 1 [i64v X] (by rfl) (one_rd (HP.out.f43 _ rfl)) (i64v_one [X]) (by have := HOL.out; have := HAX.out; unfold maxLen; omega) (by have := HOL.out; have := HAX.out; omega) HP.out.at_.ob.2 ?_; intro v44 w44 ho hg hat; have HP := Lib.hid (HP.out.a44 ho hg hat); clear ho hg hat)
            | (refine step_append_rd _ (by rfl) _ _ _ (by rfl) B 3 i0 _ 1 8 Tryz.underlying22 HI.out HZ.out.1 HZ.out.2.1 HZ.out.2.2 rfl (by omega) v44 (a + 1) ((O.take a ++ [X]).map i64v) (by rfl) (HP.out.f44 _ rfl).1 _ (if c5 = a then A5 else A5.map (·.add a)) (O.length - a) (c5 - a) ((O.drop a).map i64v) (by rfl) (own_drop HP.out.at_.own HAX.out) (i64v_one _) (by have := HOL.out; have := HAX.out; unfold maxLen; omega) (by have := HOL.out; have := HAX.out; omega) HP.out.at_.ob.2 ?_; intro v48 w48 ho hg hat; have HQ := Lib.hid (HP.out.a48 HAX.out ho hg); clear ho hg hat))
          all_goals
            obtain ⟨A8, c8, rfl⟩ := own_form HQ.out.own
            have HR := Lib.hid (show IdsA w B (.slice (some ⟨b, o, none⟩) L.length c) L (.slice A8 (O.take a ++ [X] ++ O.drop a).length c8) (idsF (L.take (k + 1))) w48 from by
              have e : insI X O = O.take a ++ [X] ++ O.drop a := by unfold insI; rw [HPA.out]
              rw [HSN.out, e]; exact HQ.out)
            clear HQ
            go_wp2
            go_roundw
            case rel => exact ⟨k + 1, by omega, by go_num, HR.out⟩
            case measure => simp [intOf]; omega
        · have hd : decide (0 < a) = true := by simp; omega
          obtain ⟨a1, ha1⟩ : ∃ a1, a = a1 + 1 := ⟨a - 1, by omega⟩
          have hs : IntKind.i64.wrap ((a : Int) - 1) = (a1 : Int) := by rw [IntWalk.i64_in _ (by omega)]; omega
          have han : a1 < O.length := by omega
          obtain ⟨b5, o5, hA5, hb5, y0⟩ := (Nr.of_own HW.out.own).at_ han
          subst hA5
          by_cases hx : O[a1] > X
          · have HPY := Lib.hid (show insP X O a1 = insA X O by have := insP_yes han hx; rw [← ha1] at this; rw [← this]; exact HPP.out)
            generalize O[a1] = Y at *
            have hx' : X < Y := hx
            have HA1 := Lib.hid (show a1 ≤ O.length ∧ a1 < a by omega)
            clear HPP hx ha ha0 ha1
            go_wp2
            go_quiet (fail)
            go_wp2
            go_roundw
            case rel => exact ⟨a1, HA1.out.1, by go_num, HPY, Lib.hid (HW.out.below (belN _ _))⟩
            case measure => have := HA1.out.2; simp [intOf]; omega
          · have HPA := Lib.hid (show insA X O = a by have := insP_no han hx; rw [← ha1] at this; rw [← HPP.out]; exact this)
            generalize O[a1] = Y at *
            have hx' : ¬ X < Y := hx
            clear HPP hx ha0 ha1
            go_wp2
            go_quiet (fail)
            go_wp2
            generalize (some ⟨b5, o5, none⟩ : Option Addr) = A5 at *
            clear y0
            have HAX := Lib.hid (show a ≤ O.length from ha)
            have HW0 := Lib.hid (HW.out.below (belN _ nq))
            generalize wr.drewN nq = W0 at *
            have HP := Lib.hid (show IdsX w B (.slice (some ⟨b, o, none⟩) L.length c) L (.slice A5 O.length c5) O a X none none none W0.drew from (IdsX.start HW0.out).drew)
            have HP0 := Lib.hid (show IdsX w B (.slice (some ⟨b, o, none⟩) L.length c) L (.slice A5 O.length c5) O a X none none none W0 from IdsX.start HW0.out)
            have hoc := (Nr.of_own HW0.out.own).len
            have hc1 : (a : Int) ≤ (c5 : Int) := by omega
            have hc2 : (a : Int) ≤ (O.length : Int) := by omega
            have hc3 : (c5 : Int) ≤ 9223372036854775807 := by have := hoc.2.2; unfold maxLen at this; omega
            have hc4 : (O.length : Int) ≤ (c5 : Int) := by omega
            clear hoc x0
            have HX0 := Lib.hid (HP.out.cell hlt hX')
            go_region_held3 (fun W => W.cell? ⟨b, o + k * 7, none⟩ = some (.int .i64 X))
              (first | with_reducible exact HQ.out.cell hlt hX' | with_reducible exact HP.out.cell hlt hX' | with_reducible exact (HP.out.a43 3).cell hlt hX' | with_reducible exact (HP0.out.a43 3).drew.cell hlt hX')
              (first
              | (refine step_append_rd _ (by rfl) _ _ _ (by rfl) B 3 i0 _ 1 8 Tryz.underlying22 HI.out HZ.out.1 HZ.out.2.1 HZ.out.2.2 rfl (by omega) (.slice none 0 0) 0 [] (by rfl) HP.out.z _ A5 a c5 ((O.take a).map i64v) (by rfl) (own_take HP.out.at_.own HAX.out) (i64v_one _) (by have := HOL.out; have := HAX.out; unfold maxLen; omega) (by have := HOL.out; have := HAX.out; omega) HP.out.at_.ob.2 ?_; intro v37 w37 ho hg hat; have HP := Lib.hid (HP.out.a37 ho hg hat); clear ho hg hat)
              | (have HP := Lib.hid (HP.out.a43 3); refine step_append_rd _ (by rfl) _ _ _ (by rfl) B 3 i0 _ 1 8 Tryz.underlying22 HI.out HZ.out.1 HZ.out.2.1 HZ.out.2.2 rfl (by omega) (.slice none 0 0) 0 [] (by rfl) HP.out.z _ A5 a c5 ((O.take a).map i64v) (by rfl) (own_take HP.out.at_.own HAX.out) (i64v_one _) (by have := HOL.out; have := HAX.out; unfold maxLen; omega) (by have := HOL.out; have := HAX.out; omega) HP.out.at_.ob.2 ?_; intro v37 w37 ho hg hat; have HP := Lib.hid (HP.out.a37 ho hg hat); clear ho hg hat)
              | (have HP := Lib.hid (HP0.out.a43 3).drew; refine step_append_rd _ (by rfl) _ _ _ (by rfl) B 3 i0 _ 1 8 Tryz.underlying22 HI.out HZ.out.1 HZ.out.2.1 HZ.out.2.2 rfl (by omega) (.slice none 0 0) 0 [] (by rfl) HP.out.z _ A5 a c5 ((O.take a).map i64v) (by rfl) (own_take HP.out.at_.own HAX.out) (i64v_one _) (by have := HOL.out; have := HAX.out; unfold maxLen; omega) (by have := HOL.out; have := HAX.out; omega) HP.out.at_.ob.2 ?_; intro v37 w37 ho hg hat; have HP := Lib.hid (HP.out.a37 ho hg hat); clear ho hg hat)
              | (refine step_append_rd _ (by rfl) _ _ _ (by rfl) B 3 i0 _ 1 8 Tryz.underlying22 HI.out HZ.out.1 HZ.out.2.1 HZ.out.2.2 rfl (by omega) v37 a ((O.take a).map i64v) (by rfl) (HP.out.f37 _ rfl).1 _ (some ⟨_, 0, none⟩) 1 1 [i64v X] (by rfl) (one_rd (HP.out.f43 _ rfl)) (i64v_one [X]) (by have := HOL.out; have := HAX.out; unfold maxLen; omega) (by have := HOL.out; have := HAX.out; omega) HP.out.at_.ob.2 ?_; intro v44 w44 ho hg hat; have HP := Lib.hid (HP.out.a44 ho hg hat); clear ho hg hat)
              | (have HP := Lib.hid (HP.out.a43 3); refine step_append_rd _ (by rfl) _ _ _ (by rfl) B 3 i0 _ 1 8 Tryz.underlying22 HI.out HZ.out.1 HZ.out.2.1 HZ.out.2.2 rfl (by omega) v37 a ((O.take a).map i64v) (by rfl) (HP.out.f37 _ rfl).1 _ (some ⟨_, 0, none⟩) 1 1 [i64v X] (by rfl) (one_rd (HP.out.f43 _ rfl)) (i64v_one [X]) (by have := HOL.out; have := HAX.out; unfold maxLen; omega) (by have := HOL.out; have := HAX.out; omega) HP.out.at_.ob.2 ?_; intro v44 w44 ho hg hat; have HP := Lib.hid (HP.out.a44 ho hg hat); clear ho hg hat)
              | (refine step_append_rd _ (by rfl) _ _ _ (by rfl) B 3 i0 _ 1 8 Tryz.underlying22 HI.out HZ.out.1 HZ.out.2.1 HZ.out.2.2 rfl (by omega) v44 (a + 1) ((O.take a ++ [X]).map i64v) (by rfl) (HP.out.f44 _ rfl).1 _ (if c5 = a then A5 else A5.map (·.add a)) (O.length - a) (c5 - a) ((O.drop a).map i64v) (by rfl) (own_drop HP.out.at_.own HAX.out) (i64v_one _) (by have := HOL.out; have := HAX.out; unfold maxLen; omega) (by have := HOL.out; have := HAX.out; omega) HP.out.at_.ob.2 ?_; intro v48 w48 ho hg hat; have HQ := Lib.hid (HP.out.a48 HAX.out ho hg); clear ho hg hat))
            all_goals
              obtain ⟨A8, c8, rfl⟩ := own_form HQ.out.own
              have HR := Lib.hid (show IdsA w B (.slice (some ⟨b, o, none⟩) L.length c) L (.slice A8 (O.take a ++ [X] ++ O.drop a).length c8) (idsF (L.take (k + 1))) w48 from by
                have e : insI X O = O.take a ++ [X] ++ O.drop a := by unfold insI; rw [HPA.out]
                rw [HSN.out, e]; exact HQ.out)
              clear HQ
              go_wp2
              go_roundw
              case rel => exact ⟨k + 1, by omega, by go_num, HR.out⟩
              case measure => simp [intOf]; omega
    · obtain rfl : k = L.length := by omega
      have HE := Lib.hid (show idsF (L.take L.length) = idsF L by rw [List.take_length])
      have HF := Lib.hid (show NrR (idsF L) w (.returned (.slice A5 (idsF (L.take L.length)).length c5)) wr from by rw [HE.out]; have := HH.out; rw [HE.out] at this; exact ⟨_, _, rfl, Nr.of_own this.own, this.bel, nwv_of (nwv_own this.own this.ob.1)⟩)
      go_wp2
      go_ret
      exact HF.out
end Go.Proofs.YtkkgfnncdaiooaaGreat
/- Plain: what gathering the messages and leases of a shard that another one has the routes of makes of it. -/
namespace Go.Proofs.YtkkgfnncdaiooaaGreat
open Go.RowKit
set_option linter.unusedVariables false

noncomputable def Sh.psh (S : Sh) (M : Msg) : Sh := ⟨S.lv, S.lo, S.hi, pbC S.cs S.hd S.sz M, ifE (puE S.cs S.hd S.sz M) S.hd, ifE (puE S.cs S.hd S.sz M) (S.sz + 1), S.l, S.h⟩
noncomputable def Sh.gra (S : Sh) (x : Le) : Sh := ⟨S.lv, S.lo, S.hi, S.cs, S.hd, S.sz, grL S.l S.h x, grH S.l S.h x⟩
noncomputable def Sh.gp (S : Sh) (M : Msg) : Sh := if wi M.rt S.lo S.hi = true then S.psh M else S
noncomputable def Sh.gl (S : Sh) (x : Le) : Sh := if wi x.m.rt S.lo S.hi = true then S.gra x else S
noncomputable def gpF (S : Sh) (T : List Msg) : Sh := T.foldl Sh.gp S
noncomputable def glF (S : Sh) (X : List Le) : Sh := X.foldl Sh.gl S
noncomputable def gthF (S F : Sh) : Sh := glF (gpF S (lsF F.cs F.hd F.sz)) F.l
theorem gpF_next {S : Sh} {T : List Msg} {k : Nat} (hk : k < T.length) : gpF S (T.take (k + 1)) = (gpF S (T.take k)).gp T[k] := by
  unfold gpF
  rw [← List.take_append_getElem hk, List.foldl_append]
  rfl
theorem glF_next {S : Sh} {X : List Le} {k : Nat} (hk : k < X.length) : glF S (X.take (k + 1)) = (glF S (X.take k)).gl X[k] := by
  unfold glF
  rw [← List.take_append_getElem hk, List.foldl_append]
  rfl
theorem gp_yes {S : Sh} {M : Msg} (h : wi M.rt S.lo S.hi = true) : S.gp M = S.psh M := if_pos h
theorem gp_no {S : Sh} {M : Msg} (h : wi M.rt S.lo S.hi = false) : S.gp M = S := if_neg (by simp [h])
theorem gl_yes {S : Sh} {x : Le} (h : wi x.m.rt S.lo S.hi = true) : S.gl x = S.gra x := if_pos h
theorem gl_no {S : Sh} {x : Le} (h : wi x.m.rt S.lo S.hi = false) : S.gl x = S := if_neg (by simp [h])

section
variable {V : Vs}
theorem psh_sh (k : V.Ok) {M : Msg} (f : Fits V M) : V.sh.psh M = (V.push M).sh := by
  obtain ⟨p1, p2⟩ := k.pb f
  show Sh.mk true V.lo V.hi (pbC (fil V.n V.hd V.L) V.hd V.L.length M) (ifE (puE (fil V.n V.hd V.L) V.hd V.L.length M) V.hd) (ifE (puE (fil V.n V.hd V.L) V.hd V.L.length M) (V.L.length + 1)) V.l V.h = Sh.mk true V.lo V.hi (fil V.n V.hd (V.L ++ [M])) V.hd (V.L ++ [M]).length V.l V.h
  rw [p1, p2]
  simp [ifE]
def Vs.has (V : Vs) (M : Msg) : Bool := wi M.rt V.lo V.hi
theorem has_iff {M : Msg} : V.has M = true ↔ V.lo ≤ M.rt ∧ M.rt ≤ V.hi := ⟨wi_of, fun h => wi_true h.1 h.2⟩
theorem gpF_ok : ∀ (T : List Msg) (V : Vs), V.Ok → Gd (T.filter V.has ++ V.al) → V.L.length + V.l.length + (T.filter V.has).length ≤ V.n →
    gpF V.sh T = (V.ring (V.L ++ T.filter V.has)).sh ∧ (V.ring (V.L ++ T.filter V.has)).Ok
  | [], V, k, _, _ => by
    rw [List.filter_nil, List.append_nil]
    exact ⟨rfl, k⟩
  | M :: T, V, k, hg, hr => by
    by_cases h : V.has M = true
    · rw [List.filter_cons_of_pos h] at hg hr ⊢
      have hg2 := gd_cons.1 (show Gd (M :: (T.filter V.has ++ V.al)) from hg)
      simp only [List.length_cons] at hr
      have f : Fits V M := ⟨hg2.1, has_iff.1 h, by omega, fun N hN => hg2.2.2 N (List.mem_append_right _ hN)⟩
      have k2 := k.push f
      have hp : (T.filter V.has ++ (V.push M).al).Perm (M :: T.filter V.has ++ V.al) := ((push_al V M).append_left _).trans List.perm_middle
      obtain ⟨e, k3⟩ := gpF_ok T (V.push M) k2 (gd_perm hp.symm hg) (by show (V.L ++ [M]).length + V.l.length + (T.filter V.has).length ≤ V.n; simp; omega)
      have e1 : gpF V.sh (M :: T) = gpF (V.push M).sh T := by
        show gpF (V.sh.gp M) T = _
        rw [gp_yes (show wi M.rt V.sh.lo V.sh.hi = true from h), psh_sh k f]
      have e2 : (V.push M).ring ((V.push M).L ++ T.filter (V.push M).has) = V.ring (V.L ++ M :: T.filter V.has) := by
        show Vs.mk V.lo V.hi V.n V.hd ((V.L ++ [M]) ++ T.filter V.has) V.l V.h = Vs.mk V.lo V.hi V.n V.hd (V.L ++ M :: T.filter V.has) V.l V.h
        rw [List.append_assoc]; rfl
      rw [e2] at e k3
      exact ⟨e1.trans e, k3⟩
    · have h' : V.has M = false := by simpa using h
      rw [List.filter_cons_of_neg h] at hg hr ⊢
      have e1 : gpF V.sh (M :: T) = gpF V.sh T := by
        show gpF (V.sh.gp M) T = _
        rw [gp_no (show wi M.rt V.sh.lo V.sh.hi = false from h')]
      rw [e1]
      exact gpF_ok T V k hg hr
theorem glF_ok : ∀ (X : List Le) (V : Vs), V.Ok → (∀ x ∈ X, leOk x) → Gd ((X.filter (fun x => V.has x.m)).map Le.m ++ V.al) → V.L.length + V.l.length + (X.filter (fun x => V.has x.m)).length ≤ V.n →
    ∃ V' : Vs, V'.Ok ∧ glF V.sh X = V'.sh ∧ V'.lo = V.lo ∧ V'.hi = V.hi ∧ V'.n = V.n ∧ V'.hd = V.hd ∧ V'.L = V.L ∧ V'.l.Perm (X.filter (fun x => V.has x.m) ++ V.l)
  | [], V, k, _, _, _ => ⟨V, k, rfl, rfl, rfl, rfl, rfl, rfl, List.Perm.refl _⟩
  | x :: X, V, k, hx, hg, hr => by
    by_cases h : V.has x.m = true
    · rw [List.filter_cons_of_pos (p := fun x : Le => V.has x.m) h] at hg hr ⊢
      rw [List.map_cons] at hg
      have hg2 := gd_cons.1 (show Gd (x.m :: ((X.filter (fun x => V.has x.m)).map Le.m ++ V.al)) from hg)
      simp only [List.length_cons] at hr
      have f : Fits V x.m := ⟨hg2.1, has_iff.1 h, by omega, fun N hN => hg2.2.2 N (List.mem_append_right _ hN)⟩
      obtain ⟨-, k2, p2, e2⟩ := k.gr (x := x) f (hx x (List.mem_cons_self ..))
      have hp : ((X.filter (fun x => V.has x.m)).map Le.m ++ (V.gr x).al).Perm (x.m :: (X.filter (fun x => V.has x.m)).map Le.m ++ V.al) := (p2.append_left _).trans List.perm_middle
      obtain ⟨V', k3, e3, q1, q2, q3, q4, q5, q6⟩ := glF_ok X (V.gr x) k2 (fun y hy => hx y (List.mem_cons_of_mem _ hy)) (gd_perm hp.symm hg) (by rw [e2, kIns_len]; show V.L.length + (V.l.length + 1) + (X.filter (fun x => V.has x.m)).length ≤ V.n; omega)
      have e1 : glF V.sh (x :: X) = glF (V.gr x).sh X := by
        show glF (V.sh.gl x) X = _
        rw [gl_yes (show wi x.m.rt V.sh.lo V.sh.hi = true from h)]; rfl
      refine ⟨V', k3, e1.trans e3, q1, q2, q3, q4, q5, q6.trans ?_⟩
      rw [e2]
      exact ((kIns_perm V.l x).append_left _).trans List.perm_middle
    · have h' : V.has x.m = false := by simpa using h
      rw [List.filter_cons_of_neg (p := fun x : Le => V.has x.m) h] at hg hr ⊢
      have e1 : glF V.sh (x :: X) = glF V.sh X := by
        show glF (V.sh.gl x) X = _
        rw [gl_no (show wi x.m.rt V.sh.lo V.sh.hi = false from h')]
      rw [e1]
      exact glF_ok X V k (fun y hy => hx y (List.mem_cons_of_mem _ hy)) hg hr
theorem gth_ok {V F : Vs} (k : V.Ok) (kf : F.Ok) (hg : Gd ((F.l.filter (fun x => V.has x.m)).map Le.m ++ (F.L.filter V.has ++ V.al))) (hr : V.L.length + V.l.length + (F.L.filter V.has).length + (F.l.filter (fun x => V.has x.m)).length ≤ V.n) :
    ∃ V' : Vs, V'.Ok ∧ gthF V.sh F.sh = V'.sh ∧ V'.lo = V.lo ∧ V'.hi = V.hi ∧ V'.n = V.n ∧ V'.hd = V.hd ∧ V'.L = V.L ++ F.L.filter V.has ∧ V'.l.Perm (F.l.filter (fun x => V.has x.m) ++ V.l) := by
  have hL : lsF F.sh.cs F.sh.hd F.sh.sz = F.L := kf.ls
  obtain ⟨e1, k1⟩ := gpF_ok F.L V k (gd_sub (List.sublist_append_right _ _) hg) (by omega)
  have hal : (V.ring (V.L ++ F.L.filter V.has)).al = V.L ++ F.L.filter V.has ++ V.l.map Le.m := rfl
  have hp : (F.L.filter V.has ++ V.al).Perm (V.ring (V.L ++ F.L.filter V.has)).al := by
    rw [hal]
    show (F.L.filter V.has ++ (V.L ++ V.l.map Le.m)).Perm _
    rw [← List.append_assoc]
    exact List.perm_append_comm.append_right _
  obtain ⟨V', k2, e2, q1, q2, q3, q4, q5, q6⟩ := glF_ok F.l (V.ring (V.L ++ F.L.filter V.has)) k1 (fun x hx => kf.tb.ok x hx) (gd_perm (hp.append_left _) hg) (by show (V.L ++ F.L.filter V.has).length + V.l.length + (F.l.filter (fun x => V.has x.m)).length ≤ V.n; simp; omega)
  refine ⟨V', k2, ?_, q1, q2, q3, q4, q5, q6⟩
  unfold gthF
  rw [hL, e1]
  exact e2
end
end Go.Proofs.YtkkgfnncdaiooaaGreat
