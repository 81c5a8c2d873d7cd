/- What is proved here: ring.ordered and ring.List return lists that may be appended to; shard.hasSameID and shard.messages by contracts; lease.leaseError, lease.dueOf, lease.listError by contracts. -/
import Derived.Test.YtdilgeabcacbdaaJ08
import Derived.Test.YtdilgeabcacbdaaJ26
import Derived.Test.YtdilgeabcacbdaaJ25
import Derived.Test.YtdilgeabcacbdaaJ19
import Derived.Test.YtdilgeabcacbdaaJ16
namespace Go.Proofs.Ytdilgeabcacbdaa
open Go.RowKit
set_option linter.unusedVariables false

/-- A list of messages from block w.heap.size on, that may be appended to. -/
def LsW (l : List Msg) (w : World) (e : Ending) (w' : World) : Prop := ∃ A c, e = .returned (.slice A l.length c) ∧ Wn w' w.heap.size w'.heap.size (.slice A l.length c) l ∧ Below w.heap.size w w'
theorem Wn.base {W : World} {base base' Bd : Nat} {v : Value} {l : List Msg} (h : Wn W base Bd v l) (hb : base' ≤ base) : Wn W base' Bd v l := by
  obtain ⟨A, c, e, h1, h2, h3, h4⟩ := h
  exact ⟨A, c, e, h1, h2, h3, fun h0 => by obtain ⟨b, o, e, k1, k2, k3⟩ := h4 h0; exact ⟨b, o, e, by omega, k2, k3⟩⟩
theorem wn_row {W : World} {q m base : Nat} {f : Nat → Msg} {l : List Msg} (h : MRow W q m f) (hb : base ≤ q) (hl : (List.range m).map f = l) (hm : m ≤ maxLen) : Wn W base W.heap.size (.slice (some ⟨q, 0, none⟩) l.length m) l := by
  have hlen : l.length = m := by rw [← hl]; simp
  have hls := h.ls m m (Nat.le_refl _) (Nat.le_refl _) hm
  rw [hl] at hls
  refine ⟨_, m, rfl, by omega, hm, (fun e => by cases e), fun h0 => ⟨q, 0, rfl, hb, h.1, fun j u hu => ?_, fun j hj => ⟨?_, h.2.2 _⟩⟩⟩
  · obtain ⟨b, o, e, _, hc⟩ := hls.rd.2 h0
    injection e with e
    injection e with e1 e2 _
    subst e1; subst e2
    exact hc j u hu
  · rw [Nat.zero_add]
    have e : j = j / 7 * 7 + j % 7 := by omega
    rw [e]
    exact (h.there (k := j / 7) (by omega) (j % 7) (by omega)).1
set_option maxHeartbeats 4000000 in
set_option maxRecDepth 20000 in
theorem ordered_wn (A : Option Addr) (n c : Nat) (cs : List Msg) (hd sz : Nat) (w : World) (hv : Ls w w.heap.size (.slice A n c) cs) (hn : nmB cs.length hd sz = true) :
    Calls Try.prog 97 #[.agg #[.slice A n c, .int .i64 hd, .int .i64 sz]] w (LsW (ord cs hd sz) w) := by
  obtain ⟨rfl, hm1, hm2⟩ := hv.len
  obtain ⟨⟨n1, n2⟩, ⟨h1, h2⟩, ⟨s1, s2⟩⟩ := nm_of hn
  have hmk := run_make_msgs sz (by omega)
  have HV := Lib.hid hv
  clear hv hn
  go_enter Try.func97, Try.ntmps97
  go_wp2
  have HS := Lib.hid (OrdAt.start w A cs.length c hd sz sz 26 92)
  obtain ⟨p, hp⟩ : ∃ p, p = w.heap.size := ⟨_, rfl⟩
  obtain ⟨q, hq⟩ : ∃ q, q = w.heap.size + 1 := ⟨_, rfl⟩
  rw [← hq, ← hp] at HS ⊢
  have HPP := Lib.hid hp
  clear hmk hp hq
  go_loopw [10] (fun i wr => ∃ k : Nat, k ≤ sz ∧ i = .int .i64 k ∧ OrdAt w p A cs.length c hd sz q sz (fun j => if j < k then cel cs hd j else zM) wr) (fun i _ => sz - (intOf i).toNat)
  case atStart => exact ⟨0, by omega, rfl, HS.out.congr fun j _ => by simp⟩
  case round =>
    obtain ⟨k, hk, rfl, hrel⟩ := hrel
    have HR := Lib.hid hrel
    have HVK := Lib.hid (HV.out.below hrel.bel)
    clear hrel
    by_cases hlt : k < sz
    · obtain ⟨m, hm⟩ : ∃ m, m = (hd + k) % cs.length := ⟨_, rfl⟩
      have hml : m < cs.length := by rw [hm]; exact Nat.mod_lt _ (by omega)
      have HX := Lib.hid (cel_get (by omega) m hm hml)
      have HPL := Lib.hid (fun w => place_any A cs.length c hd sz k (by omega) (by omega) (by omega) (by omega) (by omega) (by omega) w)
      have hmi : ((hd : Int) + (k : Int)) % (cs.length : Int) = (m : Int) := by rw [hm]; simp
      rw [hmi] at HPL
      obtain ⟨b, o, rfl, hb, hc⟩ := HVK.out.at_ hml
      generalize cs[m] = X at *
      clear hm hmi
      obtain ⟨r0, r1, r2, hpl, hql⟩ := HR.out.facts
      have HC7 := Lib.hid hc
      clear hc
      have hbw : b < wr.heap.size := by have := HPP.out; omega
      go_wp2
      have HST := Lib.hid (fun w1 (hb1 : Below wr.drew.heap.size wr.drew w1) => OrdAt.step (X := X) HR.out hlt HC7.out hbw (drew_below hb1))
      have hzz : (if k < k then cel cs hd k else zM) = zM := if_neg (by omega)
      simp only [hzz] at HST
      clear hzz
      go_region_with ((go_at_call 121; refine (HPL.out _).mono ?_; rintro e w1 ⟨rfl, hb1⟩; obtain ⟨HR1, ⟨x0, x1, x2, hpl1, hql1⟩, ⟨d0, d1, d2, d3, d4, d5, d6⟩, ⟨z0, z1, z2, z3, z4, z5, z6⟩, ⟨y0, y1, y2, y3, y4, y5, y6⟩⟩ := HST.out _ hb1; clear hb1))
      all_goals
        have HP := Lib.hid (HR1.out.put hlt X)
        clear d0 d1 d2 d3 d4 d5 d6 z0 z1 z2 z3 z4 z5 z6 y0 y1 y2 y3 y4 y5 y6
        go_wp2
        go_roundw
        case rel =>
          refine ⟨k + 1, by omega, by go_num, HP.out.congr fun j hj => ?_⟩
          by_cases e : j = k
          · subst e
            rw [if_pos rfl, if_pos (by omega), HX.out]
          · rw [if_neg e]
            by_cases e' : j < k
            · rw [if_pos e', if_pos (by omega)]
            · rw [if_neg e', if_neg (by omega)]
        case measure => simp [intOf]; omega
    · obtain rfl : k = sz := by omega
      have HF := Lib.hid (HR.out.finish (l := ord cs hd k) (by
        unfold ord
        exact List.map_congr_left fun j hj => if_pos (List.mem_range.1 hj)) k (by omega) (Nat.le_refl _) (by unfold maxLen; omega))
      have HW := Lib.hid (wn_row HR.out.row (show w.heap.size ≤ q by have := HR.out.old; omega) (show (List.range k).map (fun j => if j < k then cel cs hd j else zM) = ord cs hd k by
        unfold ord
        exact List.map_congr_left fun j hj => if_pos (List.mem_range.1 hj)) (by unfold maxLen; omega))
      go_wp2
      go_ret
      exact ⟨_, k, by rw [ord_len]; rfl, HW.out, HF.out.2⟩
set_option maxHeartbeats 2000000 in
theorem glist_wn (A : Option Addr) (n c : Nat) (cs : List Msg) (hd sz : Int) (w : World) (hv : Ls w w.heap.size (.slice A n c) cs) :
    Calls Try.prog 64 #[.agg #[.slice A n c, .int .i64 hd, .int .i64 sz]] w (LsW (lsF cs hd sz) w) := by
  obtain ⟨rfl, _, _⟩ := hv.len
  have HV := Lib.hid hv
  have HS := Lib.hid (RgAt.start w A cs.length c hd sz 26)
  have HG := Lib.hid (fun w1 (h : Ls w1 w1.heap.size (.slice A cs.length c) cs) => gvalid_any A cs.length c cs hd sz w1 h)
  clear hv
  by_cases h0 : rgV cs hd sz = 0
  · obtain ⟨hn, _, _, _⟩ := rgV_zero h0
    obtain ⟨⟨n1, n2⟩, ⟨h1, h2⟩, ⟨s1, s2⟩⟩ := nm_of hn
    obtain ⟨hd, rfl⟩ := Int.eq_ofNat_of_zero_le h1
    obtain ⟨sz, rfl⟩ := Int.eq_ofNat_of_zero_le s1
    have HO := Lib.hid (fun w1 (h : Ls w1 w1.heap.size (.slice A cs.length c) cs) => ordered_wn A cs.length c cs hd sz w1 h hn)
    have HF := Lib.hid (show lsF cs hd sz = ord cs hd sz from if_pos h0)
    rw [h0] at HG
    clear h0 hn n1 n2 h1 h2 s1 s2
    go_enter Try.func64, Try.ntmps64
    go_wp2_with fail
    refine (HG.out _ ((HV.out.below HS.out.bel).more HS.out.bel.size)).mono ?_
    rintro e w1 ⟨rfl, hb⟩
    have HR1 := Lib.hid (HS.out.below hb)
    obtain ⟨r0, r1, r2, hp⟩ := HR1.out.facts
    clear hb
    go_wp2_with fail
    refine (HO.out _ ((HV.out.below HR1.out.bel).more HR1.out.bel.size)).mono ?_
    rintro e w2 ⟨A2, c2, rfl, hl, hb⟩
    have HL := Lib.hid (Wn.base (show Wn _ _ _ _ _ from hl) HR1.out.bel.size)
    have HB := Lib.hid (HR1.out.bel.trans (hb.mono HR1.out.bel.size))
    clear hl hb
    go_wp2
    go_ret
    rw [HF.out]
    exact ⟨_, _, rfl, HL.out, HB.out⟩
  · have HF := Lib.hid (show lsF cs hd sz = [] from if_neg h0)
    have hne : (rgV cs hd sz != 0) = true := bne_iff_ne.2 h0
    generalize rgV cs hd sz = x at *
    clear h0
    go_enter Try.func64, Try.ntmps64
    go_wp2_with fail
    refine (HG.out _ ((HV.out.below HS.out.bel).more HS.out.bel.size)).mono ?_
    rintro e w1 ⟨rfl, hb⟩
    have HR1 := Lib.hid (HS.out.below hb)
    clear hb
    go_wp2
    go_ret
    rw [HF.out]
    exact ⟨none, 0, rfl, Wn.nil, HR1.out.bel⟩

end Go.Proofs.Ytdilgeabcacbdaa
namespace Go.Proofs.Ytdilgeabcacbdaa
open Go.RowKit
set_option linter.unusedVariables false

/-- A box of a message, of whose ID something is asked. -/
def IdAt (q : Nat) (id : Int) (W : World) : Prop := q < W.heap.size ∧ W.cell? ⟨q, 0, none⟩ = some (.int .i64 id)
theorem IdAt.below {q : Nat} {id : Int} (W W' : World) (h : IdAt q id W) (hb : Below W.heap.size W W') : IdAt q id W' := ⟨Nat.lt_of_lt_of_le h.1 hb.size, (hb.cell (p := ⟨q, 0, none⟩) h.1).trans h.2⟩
theorem sameid1_any (q : Nat) (id : Int) (M : Msg) (w : World) (h : IdAt q id w) :
    Calls Try.prog 138 #[M.v, .pointer (some ⟨q, 0, none⟩)] w fun e w' => e = .returned (.bool (M.id == id)) ∧ Below w.heap.size w w' := by
  have HB := Lib.hid ((Below.refl w.heap.size w).alloc (Nat.le_refl _) (.cells M.cs 92))
  obtain ⟨hq, hc⟩ := h
  go_enter Try.func138, Try.ntmps138
  go_wp2
  go_ret
  exact ⟨rfl, HB.out⟩
theorem dup_any {l : List Msg} {k : Nat} (hk : k < l.length) : ((l.take k).any (fun N => N.id == l[k].id) = true → dupP l) ∧ ((l.take k).any (fun N => N.id == l[k].id) = false → ∀ i (hi : i < l.length), i < k → l[i].id ≠ l[k].id) := by
  constructor
  · intro h
    obtain ⟨N, hN, e⟩ := List.any_eq_true.1 h
    rw [List.mem_take_iff_getElem] at hN
    obtain ⟨i, hi, rfl⟩ := hN
    exact ⟨i, k, by omega, hk, by omega, by simpa using e⟩
  · intro h i hi hik e
    rw [List.any_eq_false] at h
    refine h l[i] ?_ (by simpa using e)
    rw [List.mem_take_iff_getElem]
    exact ⟨i, by omega, rfl⟩
set_option maxHeartbeats 4000000 in
set_option maxRecDepth 20000 in
theorem ssameid_any (A : Option Addr) (n c : Nat) (l : List Msg) (w : World) (hv : Ls w w.heap.size (.slice A n c) l) :
    Calls Try.prog 120 #[.slice A n c] w fun e w' => e = .returned (.bool (dpB l)) ∧ Below w.heap.size w w' := by
  obtain ⟨rfl, hm1, hm2⟩ := hv.len
  have hL : l.length ≤ 9223372036854775807 := by unfold maxLen at hm2; omega
  have HC := Lib.hid hm1
  have HV := Lib.hid hv
  have HB := Lib.hid (Below.refl w.heap.size w)
  have hmf : ∀ (fn : Fn) (first cap : Array Value) (w : World), (Instr.makeFunc fn first cap).run Try.prog w = .ok (.func fn first cap) w := fun _ _ _ _ => rfl
  clear hv hm1 hm2
  go_enter Try.func120, Try.ntmps120
  go_wp2
  go_loopw [7] (fun i wr => ∃ k : Nat, k ≤ l.length ∧ i = .int .i64 k ∧ Below w.heap.size w wr ∧ ∀ i j (hi : i < l.length) (hj : j < l.length), i < j → j < k → l[i].id ≠ l[j].id) (fun i _ => l.length - (intOf i).toNat)
  case atStart => exact ⟨0, by omega, rfl, HB.out, fun i j _ _ _ h => absurd h (by omega)⟩
  case round =>
    obtain ⟨k, hk, rfl, hb, hno⟩ := hrel
    have HN := Lib.hid hno
    have HVK := Lib.hid (HV.out.below hb)
    have HB := Lib.hid hb
    clear hno hb
    by_cases hlt : k < l.length
    · have HD := Lib.hid (dup_any hlt)
      have hcut := run_lupto A l.length c .i64 k (by have := HC.out; omega)
      have HVA := Lib.hid (((HVK.out.alloc HB.out.size (.cells (l[k]).cs 92)).upto k hk).more (show w.heap.size ≤ (wr.alloc (.cells (l[k]).cs 92)).heap.size by have := HB.out.size; simp; omega))
      have HBA := Lib.hid (HB.out.alloc HB.out.size (.cells (l[k]).cs 92))
      have HCF := Lib.hid (cofuncH A k c (l.take k) (.pointer (some ⟨wr.heap.size, 0, none⟩)) (fun N => N.id == l[k].id) (IdAt wr.heap.size l[k].id) (wr.alloc (.cells (l[k]).cs 92)) HVA.out ⟨by simp, by simp [Msg.cs, go_sem]⟩ IdAt.below (fun M W h => sameid1_any _ _ M W h))
      obtain ⟨b, o, rfl, hb, c0, c1, c2, c3, c4, c5, c6⟩ := HVK.out.at_ hlt
      cases he : (l.take k).any (fun N => N.id == l[k].id) with
      | true =>
        have HY := Lib.hid (dpB_yes (HD.out.1 he))
        rw [he] at HCF
        clear he HD HVA
        generalize l[k] = X at *
        go_wp2_with fail
        refine HCF.out.mono ?_
        rintro e w1 ⟨rfl, hb1⟩
        have HB1 := Lib.hid (HBA.out.trans (hb1.mono HBA.out.size))
        clear hb1
        go_wp2
        go_ret
        exact ⟨by rw [HY.out]; rfl, HB1.out⟩
      | false =>
        have HNN := Lib.hid (HD.out.2 he)
        rw [he] at HCF
        clear he HD HVA
        generalize hX : l[k] = X at *
        have HX := Lib.hid hX
        clear hX
        go_wp2_with fail
        refine HCF.out.mono ?_
        rintro e w1 ⟨rfl, hb1⟩
        have HB1 := Lib.hid (HBA.out.trans (hb1.mono HBA.out.size))
        clear hb1
        go_wp2
        go_roundw
        case rel =>
          refine ⟨k + 1, by omega, by go_num, HB1.out, fun i j hi hj hij hjk => ?_⟩
          by_cases e : j = k
          · subst e
            rw [HX.out]
            exact HNN.out i hi hij
          · exact HN.out i j hi hj hij (by omega)
        case measure => simp [intOf]; omega
    · have HY := Lib.hid (dpB_no (l := l) (by rintro ⟨i, j, hi, hj, hij, e⟩; exact HN.out i j hi hj hij (by omega) e))
      go_wp2
      go_ret
      exact ⟨by rw [HY.out]; rfl, HB.out⟩

theorem lsF_le (cs : List Msg) (hd sz : Int) : (lsF cs hd sz).length ≤ 12 := by
  unfold lsF
  by_cases h : rgV cs hd sz = 0
  · rw [if_pos h, ord_len]
    have := (nm_of (rgV_zero h).1)
    omega
  · rw [if_neg h]; simp
/-- The list of messages so far. -/
theorem take_map_succ {l : List Le} {k : Nat} (h : k < l.length) (L : List Msg) : L ++ (l.take (k + 1)).map Le.m = (L ++ (l.take k).map Le.m) ++ [l[k].m] := by
  rw [← List.take_append_getElem h, List.map_append, ← List.append_assoc]
  rfl
theorem msg_row (w : World) (M : Msg) (t : TypeId) : ∀ j u, M.l[j]? = some u → (w.alloc (.cells #[.int .i64 M.id, .int .i64 M.rt, .int .i64 M.ep, .int .i64 M.ct, .int .i64 M.gn, .int .i64 M.st, .string M.bd] t)).cell? ((⟨w.heap.size, 0, none⟩ : Addr).add j) = some u := fun j u hu => by
  rw [add_mk, Nat.zero_add, World.cell?_alloc_new]
  simpa [Msg.l] using hu
set_option maxHeartbeats 8000000 in
set_option maxRecDepth 20000 in
theorem smsgs_any (S : Sh) (D : Sx) (w : World) (hs : SR w w.heap.size S D) (h12 : S.l.length ≤ 1000) :
    Calls Try.prog 116 #[sv S D] w (LsW S.al w) := by
  obtain ⟨i0, hi0, hz0⟩ := Option.map_eq_some_iff.1 info_msg
  simp only [Prod.mk.injEq] at hz0
  have HI := Lib.hid hi0
  have HZ := Lib.hid hz0
  have H0 := Lib.hid (SAt.start 32 hs)
  have HLF := Lib.hid (lsF_le S.cs S.hd S.sz)
  have HG := Lib.hid (fun p W (k : SAt w p S D W) => glist_wn D.A S.cs.length D.c S.cs S.hd S.sz W k.sr.ls)
  have HAL := Lib.hid (show S.al = lsF S.cs S.hd S.sz ++ (S.l.take S.l.length).map Le.m by rw [List.take_length]; rfl)
  have HE0 := Lib.hid hs.el
  have hL : S.l.length ≤ 9223372036854775807 := by omega
  clear hs hi0 hz0
  generalize hLL : lsF S.cs S.hd S.sz = L at *
  clear hLL
  go_enter Try.func116, Try.ntmps116
  obtain ⟨t0, t1, t2, t3, t4, t5, t6, t7, tl⟩ := H0.out.s8.facts
  go_wp2_with fail
  clear t0 t1 t2 t3 t4 t5 t6 t7 tl
  obtain ⟨p, hp⟩ : ∃ p, p = w.heap.size := ⟨_, rfl⟩
  have HPW := Lib.hid hp
  rw [← hp]
  rw [← hp] at H0
  clear hp
  generalize w.alloc (.cells #[.bool S.lv, .int .i64 S.lo, .int .i64 S.hi, .slice D.A S.cs.length D.c, .int .i64 S.hd, .int .i64 S.sz, .slice D.A2 S.l.length D.c2, .slice D.A3 S.h.length D.c3] 32) = w1 at *
  refine (HG.out _ _ H0.out).mono ?_
  rintro e w2 ⟨A1, c1, rfl, hw, hb⟩
  have H1 := Lib.hid (H0.out.below hb)
  have HW1 := Lib.hid (Wn.base hw (show p + 1 ≤ w1.heap.size from H0.out.lt))
  clear hb hw
  obtain ⟨t0, t1, t2, t3, t4, t5, t6, t7, tl⟩ := H1.out.s8.facts
  go_wp2
  clear t0 t1 t2 t3 t4 t5 t6 t7 tl
  go_loopw [3, 13] (fun lv i wr => ∃ k : Nat, k ≤ S.l.length ∧ i = .int .i64 k ∧ p < wr.heap.size ∧ Below w.heap.size w wr ∧ ∃ A c, lv = .slice A (L ++ (S.l.take k).map Le.m).length c ∧ Wn wr (p + 1) wr.heap.size (.slice A (L ++ (S.l.take k).map Le.m).length c) (L ++ (S.l.take k).map Le.m)) (fun _ i _ => S.l.length - (intOf i).toNat)
  case atStart =>
    refine ⟨0, Nat.zero_le _, rfl, H1.out.lt, H1.out.bel, A1, c1, ?_, ?_⟩
    · simp
    · simpa using HW1.out
  case round =>
    obtain ⟨k, hk, rfl, hpl, hb, A, c, rfl, hw⟩ := hrel
    have HW := Lib.hid hw
    have HB := Lib.hid hb
    have HEK := Lib.hid (HE0.out.below hb)
    clear hw hb
    by_cases hlt : k < S.l.length
    · have HS := Lib.hid (take_map_succ hlt L)
      have hln : (L ++ (S.l.take k).map Le.m).length ≤ 2000 := by simp; have := HLF.out; omega
      obtain ⟨b, o, hA2, hbl, hc⟩ := HEK.out.at_ hlt
      generalize (L ++ (S.l.take k).map Le.m) = K at *
      generalize hX : S.l[k] = X at *
      clear hX
      rw [hA2]
      clear hA2
      obtain ⟨c0, c1, c2, c3, c4, c5, c6, c7⟩ := hc
      have HWA := Lib.hid ((HW.out.alloc (Nat.le_refl _) (.cells #[.int .i64 X.m.id, .int .i64 X.m.rt, .int .i64 X.m.ep, .int .i64 X.m.ct, .int .i64 X.m.gn, .int .i64 X.m.st, .string X.m.bd, .int .i64 X.dl] 95)).alloc (by simp) (.cells #[.int .i64 X.m.id, .int .i64 X.m.rt, .int .i64 X.m.ep, .int .i64 X.m.ct, .int .i64 X.m.gn, .int .i64 X.m.st, .string X.m.bd] 92))
      have HBA := Lib.hid ((HB.out.alloc HB.out.size (.cells #[.int .i64 X.m.id, .int .i64 X.m.rt, .int .i64 X.m.ep, .int .i64 X.m.ct, .int .i64 X.m.gn, .int .i64 X.m.st, .string X.m.bd, .int .i64 X.dl] 95)).alloc (by have := HB.out.size; simp; omega) (.cells #[.int .i64 X.m.id, .int .i64 X.m.rt, .int .i64 X.m.ep, .int .i64 X.m.ct, .int .i64 X.m.gn, .int .i64 X.m.st, .string X.m.bd] 92))
      go_wp2_with (at_builtin; refine wpList_append_wn _ rfl (.tmp 17) (.tmp 20) 24 rfl 92 i0 _ 64 Try.underlying24 HI.out HZ.out.1 HZ.out.2.1 HZ.out.2.2 rfl (p + 1) wr.heap.size A c K rfl HWA.out (by simp; omega) (by simp; omega) ⟨wr.heap.size + 1, 0, none⟩ 1 X.m rfl (fun j u hu => by have := msg_row (wr.alloc (.cells #[.int .i64 X.m.id, .int .i64 X.m.rt, .int .i64 X.m.ep, .int .i64 X.m.ct, .int .i64 X.m.gn, .int .i64 X.m.st, .string X.m.bd, .int .i64 X.dl] 95)) X.m 92 j u hu; simpa using this) (by unfold maxLen; omega) (by omega) ?_; intro v3 w3 hwn hgr)
      obtain ⟨row, hgr, hrow⟩ := hgr
      have HB3 := Lib.hid (HBA.out.grown hgr HBA.out.size (fun q e => by have := hrow q e; have := HPW.out; omega))
      have HP3 := Lib.hid (show p < w3.heap.size by have := hgr.size; simp at this; omega)
      obtain ⟨A3, c3', hv3⟩ := hwn.form
      subst hv3
      have HW3 := Lib.hid hwn
      clear hwn hgr hrow
      go_wp2
      go_roundw
      case rel => exact ⟨k + 1, by omega, by go_num, HP3.out, HB3.out, A3, c3', by rw [HS.out], by rw [HS.out]; exact HW3.out⟩
      case measure => simp [intOf]; omega
    · obtain rfl : k = S.l.length := by omega
      go_wp2
      go_ret
      exact ⟨A, c, by rw [HAL.out]; rfl, by rw [HAL.out]; exact Wn.base HW.out (by have := HPW.out; omega), HB.out⟩
end Go.Proofs.Ytdilgeabcacbdaa
namespace Go.Proofs.Ytdilgeabcacbdaa
open Go.RowKit
set_option linter.unusedVariables false

set_option maxHeartbeats 2000000 in
theorem leaseerr_any (X : Le) (w : World) : Calls Try.prog 130 #[X.v] w fun e w' => e = .returned (.int .i64 (leE X)) ∧ Below w.heap.size w w' := by
  have HB := Lib.hid ((Below.refl w.heap.size w).alloc (Nat.le_refl _) (.cells #[.int .i64 X.m.id, .int .i64 X.m.rt, .int .i64 X.m.ep, .int .i64 X.m.ct, .int .i64 X.m.gn, .int .i64 X.m.st, .string X.m.bd, .int .i64 X.dl] 95))
  have HXB := Lib.hid (XB.start w X 95)
  have HM := Lib.hid (fun W => validate_any X.m W)
  by_cases hv : vf X.m = 0
  · rw [hv] at HM
    have HV := Lib.hid hv
    clear hv
    go_enter Try.func130, Try.ntmps130
    go_wp2_with fail
    obtain ⟨q, hq⟩ : ∃ q, q = w.heap.size := ⟨_, rfl⟩
    rw [← hq] at HXB ⊢
    clear hq
    generalize w.alloc (.cells #[.int .i64 X.m.id, .int .i64 X.m.rt, .int .i64 X.m.ep, .int .i64 X.m.ct, .int .i64 X.m.gn, .int .i64 X.m.st, .string X.m.bd, .int .i64 X.dl] 95) = w2 at *
    refine (HM.out _).mono ?_
    rintro e w3 ⟨rfl, hb⟩
    have HB3 := Lib.hid (HB.out.trans (hb.mono HB.out.size))
    obtain ⟨x0, x4, x7, xl⟩ := HXB.out.below hb HXB.out.2.2.2
    clear hb
    by_cases hg : X.m.gn = 0
    · have HR := Lib.hid (leE_7 HV.out hg)
      rw [hg] at x4
      clear hg
      go_wp2
      go_ret
      exact ⟨by rw [HR.out]; rfl, HB3.out⟩
    · have HG := Lib.hid hg
      have hg' : (X.m.gn == 0) = false := by simpa using hg
      clear hg
      by_cases hd1 : X.dl < 0
      · have HR := Lib.hid (leE_1 HV.out HG.out (Or.inl hd1))
        go_wp2
        go_ret
        exact ⟨by rw [HR.out]; rfl, HB3.out⟩
      · by_cases hd2 : 1073741824 < X.dl
        · have HR := Lib.hid (leE_1 HV.out HG.out (Or.inr hd2))
          go_wp2
          go_ret
          exact ⟨by rw [HR.out]; rfl, HB3.out⟩
        · have HR := Lib.hid (leE_0 HV.out HG.out (fun h => h.elim hd1 hd2))
          go_wp2
          go_ret
          exact ⟨by rw [HR.out]; rfl, HB3.out⟩
  · have HR := Lib.hid (leE_vf hv)
    have hv' : (vf X.m != 0) = true := by simpa using hv
    have hv2 : (vf X.m == 0) = false := by simpa using hv
    clear hv
    generalize vf X.m = z at *
    go_enter Try.func130, Try.ntmps130
    go_wp2_with fail
    refine (HM.out _).mono ?_
    rintro e w3 ⟨rfl, hb⟩
    have HB3 := Lib.hid (HB.out.trans (hb.mono HB.out.size))
    clear hb
    go_wp2
    go_ret
    exact ⟨by rw [HR.out]; rfl, HB3.out⟩

/-- A lease in a box, all its cells. -/
abbrev El8 (W : World) (q : Nat) (X : Le) : Prop := W.cell? ⟨q, 0, none⟩ = some (.int .i64 X.m.id) ∧ W.cell? ⟨q, 1, none⟩ = some (.int .i64 X.m.rt) ∧ W.cell? ⟨q, 2, none⟩ = some (.int .i64 X.m.ep) ∧ W.cell? ⟨q, 3, none⟩ = some (.int .i64 X.m.ct) ∧ W.cell? ⟨q, 4, none⟩ = some (.int .i64 X.m.gn) ∧ W.cell? ⟨q, 5, none⟩ = some (.int .i64 X.m.st) ∧ W.cell? ⟨q, 6, none⟩ = some (.string X.m.bd) ∧ W.cell? ⟨q, 7, none⟩ = some (.int .i64 X.dl) ∧ q < W.heap.size
theorem El8.start (w : World) (X : Le) (t : TypeId) : El8 (w.alloc (.cells #[.int .i64 X.m.id, .int .i64 X.m.rt, .int .i64 X.m.ep, .int .i64 X.m.ct, .int .i64 X.m.gn, .int .i64 X.m.st, .string X.m.bd, .int .i64 X.dl] t)) w.heap.size X :=
  ⟨by simp [go_sem], by simp [go_sem], by simp [go_sem], by simp [go_sem], by simp [go_sem], by simp [go_sem], by simp [go_sem], by simp [go_sem], by simp⟩
theorem El8.below {B : Nat} {W W' : World} {q : Nat} {X : Le} (h : El8 W q X) (hb : Below B W W') (hq : q < B) : El8 W' q X := by
  obtain ⟨h0, h1, h2, h3, h4, h5, h6, h7, hl⟩ := h
  exact ⟨(hb.cell (p := ⟨q, 0, none⟩) hq).trans h0, (hb.cell (p := ⟨q, 1, none⟩) hq).trans h1, (hb.cell (p := ⟨q, 2, none⟩) hq).trans h2, (hb.cell (p := ⟨q, 3, none⟩) hq).trans h3, (hb.cell (p := ⟨q, 4, none⟩) hq).trans h4, (hb.cell (p := ⟨q, 5, none⟩) hq).trans h5, (hb.cell (p := ⟨q, 6, none⟩) hq).trans h6, (hb.cell (p := ⟨q, 7, none⟩) hq).trans h7, Nat.lt_of_lt_of_le hl hb.size⟩
theorem dueof_any (X : Le) (w : World) : Calls Try.prog 136 #[X.v] w fun e w' => e = .returned X.du.v ∧ Below w.heap.size w w' := by
  have HB := Lib.hid ((Below.refl w.heap.size w).alloc (Nat.le_refl _) (.cells #[.int .i64 X.m.id, .int .i64 X.m.rt, .int .i64 X.m.ep, .int .i64 X.m.ct, .int .i64 X.m.gn, .int .i64 X.m.st, .string X.m.bd, .int .i64 X.dl] 95))
  have HXB := Lib.hid (XB.start w X 95)
  go_enter Try.func136, Try.ntmps136
  go_wp2
  exact bodyPost_ret (v := X.du.v) (by simp only [results, Try.results136]; go_simp <;> first | rfl | exact ⟨rfl, rfl⟩) rfl ⟨rfl, by repeat (first | exact HB.out | exact (HB.out.alloc HB.out.size _) | (refine Below.setCell ?_ ?_ _) | simp)⟩

theorem bfI_zero (l : List Le) : bfI l 0 = 0 := if_pos rfl
set_option maxHeartbeats 2000000 in
theorem listerr_any (A : Option Addr) (n c : Nat) (l : List Le) (w : World) (hv : El w w.heap.size (.slice A n c) l) :
    Calls Try.prog 111 #[.slice A n c] w fun e w' => e = .returned (.int .i64 (leS l 0)) ∧ Below w.heap.size w w' := by
  obtain ⟨rfl, hm1, hm2⟩ := hv.len
  have hL : l.length ≤ 9223372036854775807 := by unfold maxLen at hm2; omega
  have HV := Lib.hid hv
  have HB := Lib.hid (Below.refl w.heap.size w)
  have H0 := Lib.hid (bfI_zero l)
  clear hv hm1 hm2
  go_enter Try.func111, Try.ntmps111
  go_wp2
  go_loopw [3, 9] (fun b i wr => ∃ k : Nat, k ≤ l.length ∧ i = .int .i64 k ∧ b = .int .i64 (bfI l k) ∧ Below w.heap.size w wr ∧ ∀ j, j < k → leC l j = 0) (fun _ i _ => l.length - (intOf i).toNat)
  case atStart => exact ⟨0, by omega, rfl, by rw [H0.out], HB.out, fun j h => absurd h (by omega)⟩
  case round =>
    obtain ⟨k, hk, rfl, rfl, hb, hno⟩ := hrel
    have HN := Lib.hid hno
    have HVK := Lib.hid (HV.out.below hb)
    have HB := Lib.hid hb
    clear hno hb
    by_cases hlt : k < l.length
    · obtain ⟨b, o, rfl, _⟩ := HVK.out.some_ (by omega)
      obtain ⟨⟨c0, c1, c2, c3, c4, c5, c6, c7⟩, hb⟩ := HVK.out.c8 hlt
      obtain ⟨X, hX⟩ : ∃ X, l[k] = X := ⟨_, rfl⟩
      rw [hX] at c0 c1 c2 c3 c4 c5 c6 c7
      have HX := Lib.hid (show lg l k = X by rw [← lg_get hlt]; exact hX)
      clear hX
      have HBA := Lib.hid (HB.out.alloc HB.out.size (.cells #[.int .i64 X.m.id, .int .i64 X.m.rt, .int .i64 X.m.ep, .int .i64 X.m.ct, .int .i64 X.m.gn, .int .i64 X.m.st, .string X.m.bd, .int .i64 X.dl] 95))
      have HXB := Lib.hid (El8.start wr X 95)
      have HM := Lib.hid (fun W => leaseerr_any X W)
      have HSU := Lib.hid (bfI_succ l k)
      have HCE := Lib.hid (leC_err (l := l) (k := k))
      have HCO := Lib.hid (leC_ord (l := l) (k := k))
      rw [HX.out] at HSU HCE HCO
      have HLA := Lib.hid (fun hc => leS_at hlt hc HN.out)
      obtain ⟨z, hz⟩ : ∃ z, z = bfI l k := ⟨_, rfl⟩
      rw [← hz] at HCO ⊢
      clear hz
      go_wp2_with fail
      clear c0 c1 c2 c3 c4 c5 c6 c7
      obtain ⟨q, hq⟩ : ∃ q, q = wr.heap.size := ⟨_, rfl⟩
      rw [← hq] at HXB ⊢
      clear hq hb
      generalize wr.alloc (.cells #[.int .i64 X.m.id, .int .i64 X.m.rt, .int .i64 X.m.ep, .int .i64 X.m.ct, .int .i64 X.m.gn, .int .i64 X.m.st, .string X.m.bd, .int .i64 X.dl] 95) = w2 at *
      by_cases he : leE X = 0
      · rw [he] at HM
        have HCO := Lib.hid (HCO.out he)
        clear he HCE
        refine (HM.out _).mono ?_
        rintro e w3 ⟨rfl, hb⟩
        have HB3 := Lib.hid (HBA.out.trans (hb.mono HBA.out.size))
        obtain ⟨x0, x1, x2, x3, x4, x5, x6, x7, xl⟩ := HXB.out.below hb HXB.out.2.2.2.2.2.2.2.2
        clear hb x1 x2 x3 x4 x5 x6 x7
        by_cases hle : X.m.id ≤ z
        · have HR := Lib.hid (show leS l 0 = 11 from by
            have e : leC l k = 11 := HCO.out.trans (if_pos hle)
            exact (HLA.out (by rw [e]; decide)).trans e)
          go_wp2
          go_ret
          exact ⟨by rw [HR.out]; rfl, HB3.out⟩
        · have HNN := Lib.hid (show ∀ j, j < k + 1 → leC l j = 0 from fun j h => by
            by_cases e : j = k
            · rw [e]; exact HCO.out.trans (if_neg hle)
            · exact HN.out j (by omega))
          go_wp2
          go_roundw
          case rel => exact ⟨k + 1, by omega, by go_num, by rw [HSU.out]; rfl, HB3.out, HNN.out⟩
          case measure => simp [intOf]; omega
      · have HR := Lib.hid (show leS l 0 = leE X from (HLA.out (by rw [HCE.out he]; exact he)).trans (HCE.out he))
        have he' : (leE X != 0) = true := by simpa using he
        clear he HCE HCO
        generalize leE X = y at *
        refine (HM.out _).mono ?_
        rintro e w3 ⟨rfl, hb⟩
        have HB3 := Lib.hid (HBA.out.trans (hb.mono HBA.out.size))
        clear hb
        go_wp2
        go_ret
        exact ⟨by rw [HR.out]; rfl, HB3.out⟩
    · have HR := Lib.hid (leS_ok (l := l) (fun j hj => HN.out j (by omega)))
      go_wp2
      go_ret
      exact ⟨by rw [HR.out]; rfl, HB.out⟩
end Go.Proofs.Ytdilgeabcacbdaa
