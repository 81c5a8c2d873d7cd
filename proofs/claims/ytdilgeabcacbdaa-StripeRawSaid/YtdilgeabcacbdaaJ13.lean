/- What is proved here: shardqueueref03.Index by one contract; shardqueueref04.Validate by a contract; (plain) what removals from a ring that is filled with valid messages of different IDs give. -/
import Derived.Test.YtdilgeabcacbdaaJ04
import Derived.Test.YtdilgeabcacbdaaJ01
import Derived.IntWalk
import Derived.Test.YtdilgeabcacbdaaJ08
import Derived.Deep.QuietTactic
import Derived.BigQuiet
import Derived.Test.YtdilgeabcacbdaaJ11
import Derived.Test.YtdilgeabcacbdaaJ12
namespace Go.Proofs.Ytdilgeabcacbdaa
open Go.RowKit
set_option linter.unusedVariables false

theorem rindex_any (A : Option Addr) (n c : Nat) (l : List Msg) (id : Int) (w : World) (B : Nat) (hv : Ls w B (.slice A n c) l) :
    Calls Try.prog 71 #[.slice A n c, .int .i64 id] w fun e w' => e = .returned (.int .i64 (ixF l id)) ∧ w = w' := by
  obtain ⟨rfl, hm1, hm2⟩ := hv.len
  have hL : l.length ≤ 9223372036854775807 := by unfold maxLen at hm2; omega
  have HV := Lib.hid hv
  clear hv hm1 hm2
  go_enter Try.func71, Try.ntmps71
  go_wp2
  go_loop [5] (fun i => ∃ k : Nat, k ≤ l.length ∧ i = .int .i64 k ∧ ∀ j (hj : j < l.length), j < k → l[j].id ≠ id) (fun i => l.length - (intOf i).toNat)
  case atStart => exact ⟨0, by omega, rfl, fun j _ h => absurd h (by omega)⟩
  case round =>
    obtain ⟨k, hk, rfl, hno⟩ := hrel
    have HN := Lib.hid hno
    clear hno
    by_cases hlt : k < l.length
    · obtain ⟨b, o, rfl, hb, c0, -⟩ := HV.out.at_ hlt
      by_cases he : l[k].id = id
      · have HR := Lib.hid (ixF_hit hlt he HN.out)
        have hd : (l[k].id == id) = true := by simpa using he
        clear he
        go_wp2
        go_ret
        exact ⟨by rw [HR.out]; rfl, rfl⟩
      · have hd : (l[k].id == id) = false := by simpa using he
        have HE := Lib.hid he
        clear he
        go_wp2
        go_round
        case rel => exact ⟨k + 1, by omega, by go_num, fun j hj h => by
          by_cases e : j = k
          · subst e; exact HE.out
          · exact HN.out j hj (by omega)⟩
        case measure => simp [intOf]; omega
    · have HR := Lib.hid (ixF_none (id := id) (fun j hj => HN.out j hj (by omega)))
      go_wp2
      go_ret
      exact ⟨by rw [HR.out]; rfl, rfl⟩
end Go.Proofs.Ytdilgeabcacbdaa
namespace Go.Proofs.Ytdilgeabcacbdaa
open Go.RowKit
set_option linter.unusedVariables false

theorem ix_other {l : List Msg} {k : Nat} (hk : k < l.length) (h : ixF l l[k].id ≠ k) : dupP l := by
  rcases ixF_cases l l[k].id with ⟨_, hn⟩ | ⟨j, hj, e, hi, hn⟩
  · exact absurd rfl (hn k hk)
  · rw [e] at h
    have hjk : j ≠ k := fun e => h (by rw [e])
    rcases Nat.lt_or_ge j k with hlt | hge
    · exact ⟨j, k, hj, hk, hlt, hi⟩
    · exact absurd rfl (hn k hk (by omega))
theorem dup_none {l : List Msg} (h : ∀ k (hk : k < l.length), ixF l l[k].id = k) : ¬ dupP l := by
  rintro ⟨i, j, hi, hj, hij, e⟩
  have h1 := h i hi
  have h2 := h j hj
  rw [e, h2] at h1
  omega

set_option maxHeartbeats 2000000 in
theorem rvalid_no (A : Option Addr) (c : Nat) (cs : List Msg) (hd sz : Int) (w : World) (hm2 : cs.length ≤ maxLen) (h : nmB cs.length hd sz = false) :
    Calls Try.prog 67 #[.agg #[.slice A cs.length c, .int .i64 hd, .int .i64 sz]] w (VlT w 1) := by
  have HB := Lib.hid (RgAt.start w A cs.length c hd sz 26).bel
  have hL : (cs.length : Int) ≤ 9223372036854775807 := by unfold maxLen at hm2; omega
  generalize cs.length = n at *
  by_cases a1 : (n : Int) < 1
  · obtain rfl : n = 0 := by omega
    clear h hm2
    go_enter Try.func67, Try.ntmps67
    go_wp2
    go_ret
    exact ⟨rfl, HB.out⟩
  by_cases a2 : (12 : Int) < (n : Int)
  · clear h hm2
    go_enter Try.func67, Try.ntmps67
    go_wp2
    go_ret
    exact ⟨rfl, HB.out⟩
  by_cases a3 : hd < 0
  · clear h hm2
    go_enter Try.func67, Try.ntmps67
    go_wp2
    go_ret
    exact ⟨rfl, HB.out⟩
  by_cases a4 : (n : Int) ≤ hd
  · clear h hm2
    go_enter Try.func67, Try.ntmps67
    go_wp2
    go_ret
    exact ⟨rfl, HB.out⟩
  by_cases a5 : sz < 0
  · clear h hm2
    go_enter Try.func67, Try.ntmps67
    go_wp2
    go_ret
    exact ⟨rfl, HB.out⟩
  by_cases a6 : (n : Int) < sz
  · clear h hm2
    go_enter Try.func67, Try.ntmps67
    go_wp2
    go_ret
    exact ⟨rfl, HB.out⟩
  rw [nm_mk (by omega)] at h
  cases h

set_option maxHeartbeats 8000000 in
set_option maxRecDepth 20000 in
theorem rvalid_any (A : Option Addr) (n c : Nat) (cs : List Msg) (hd sz : Int) (w : World) (hv : Ls w w.heap.size (.slice A n c) cs) :
    Calls Try.prog 67 #[.agg #[.slice A n c, .int .i64 hd, .int .i64 sz]] w (VlT w (rgV cs hd sz)) := by
  obtain ⟨rfl, hm1, hm2⟩ := hv.len
  cases h0 : nmB cs.length hd sz with
  | false => rw [rgV_num h0]; exact rvalid_no A c cs hd sz w (by omega) h0
  | true =>
    have HV := Lib.hid hv
    clear hm1 hm2 hv
    obtain ⟨⟨n1, n2⟩, ⟨h1, h2⟩, ⟨s1, s2⟩⟩ := nm_of h0
    obtain ⟨hd, rfl⟩ := Int.eq_ofNat_of_zero_le h1
    obtain ⟨sz, rfl⟩ := Int.eq_ofNat_of_zero_le s1
    have HO := Lib.hid (fun w1 (h : Ls w1 w1.heap.size (.slice A cs.length c) cs) => rorder_any A cs.length c cs hd sz w1 h h0)
    have HZN := Lib.hid (fun k (hk : sz ≤ k) (hl : k < cs.length) (h : cel cs hd k ≠ zM) => rgV_free (sz := (sz : Int)) (hd := (hd : Int)) h0 (fun g => h (g k (by simpa using hk) hl)))
    have HE := Lib.hid (fun hz => rgV_msg (cs := cs) (hd := hd) (sz := sz) h0 hz)
    have HD := Lib.hid (fun hz => rgV_dup (cs := cs) (hd := hd) (sz := sz) h0 hz)
    have HK := Lib.hid (fun hz => rgV_ok (cs := cs) (hd := hd) (sz := sz) h0 hz)
    simp only [Int.toNat_natCast] at HE HD HK
    have hlen := ord_len cs hd sz
    have HLL := Lib.hid (show (ord cs hd sz).length ≤ 12 by omega)
    generalize ord cs hd sz = l at *
    generalize rgV cs hd sz = R at *
    clear hlen h0
    have hc1 : ¬ ((cs.length : Int) < 1) := by omega
    have hc2 : ¬ ((12 : Int) < (cs.length : Int)) := by omega
    have hc3 : ¬ ((cs.length : Int) ≤ (hd : Int)) := by omega
    have hc4 : ¬ ((cs.length : Int) < (sz : Int)) := by omega
    have hn1i : (1 : Int) ≤ (cs.length : Int) := by omega
    have hn2i : (cs.length : Int) ≤ 12 := by omega
    have hnil : ¬ (cs = []) := fun e => by rw [e] at n1; simp at n1
    have hnl0 : ¬ (cs.length = 0) := by omega
    go_enter Try.func67, Try.ntmps67
    go_wp2
    have HS := Lib.hid (RgAt.start w A cs.length c hd sz 26)
    obtain ⟨p, hp⟩ : ∃ p, p = w.heap.size := ⟨_, rfl⟩
    rw [← hp] at HS ⊢
    have HPP := Lib.hid hp
    clear hp
    go_loopw [4] (fun i wr => ∃ k : Nat, k ≤ cs.length ∧ sz ≤ k ∧ i = .int .i64 k ∧ RgAt w p A cs.length c hd sz wr ∧ ∀ j, sz ≤ j → j < k → cel cs hd j = zM) (fun i _ => cs.length - (intOf i).toNat)
    case atStart => exact ⟨sz, by omega, Nat.le_refl _, rfl, HS.out, fun j h h' => absurd h (by omega)⟩
    case round =>
      obtain ⟨k, hk, hsk, rfl, hr, hz⟩ := hrel
      have HR := Lib.hid hr
      have HZ := Lib.hid hz
      have HVK := Lib.hid (HV.out.below hr.bel)
      obtain ⟨r0, r1, r2, hpl⟩ := hr.facts
      clear hr hz
      by_cases hlt : k < cs.length
      · obtain ⟨m, hm⟩ : ∃ m, m = (hd + k) % cs.length := ⟨_, rfl⟩
        have hml : m < cs.length := by rw [hm]; exact Nat.mod_lt _ (by omega)
        have HX := Lib.hid (cel_get (by omega) m hm hml)
        have hmi : ((hd : Int) + (k : Int)) % (cs.length : Int) = (m : Int) := by rw [hm]; simp
        have hhk : IntKind.i64.wrap ((hd : Int) + (k : Int)) = (hd : Int) + (k : Int) := IntWalk.i64_in _ (by omega)
        have hmt : ((hd : Int) + (k : Int)).tmod (cs.length : Int) = (m : Int) := by rw [Int.tmod_eq_emod_of_nonneg (show 0 ≤ (hd : Int) + (k : Int) by omega)]; exact hmi
        have hml' : (m : Int) < (cs.length : Int) := by omega
        obtain ⟨b, o, rfl, hb, c0, c1, c2, c3, c4, c5, c6⟩ := HVK.out.at_ hml
        generalize cs[m] = X at *
        clear hm hb
        by_cases he : X = zM
        · have hne : ∀ W, (binOp .neq 92 X.v (.agg #[.int .i64 0, .int .i64 0, .int .i64 0, .int .i64 0, .int .i64 0, .int .i64 0, .string ⟨#[]⟩])).run Try.prog W = .ok (.bool false) W := by rw [he]; exact neqm zM
          have HE0 := Lib.hid he
          clear he
          go_wp2
          go_quiet (fail)
          go_wp2
          go_roundw
          case rel =>
            refine ⟨k + 1, by omega, by omega, by go_num, HR.out.drewN _, fun j h h' => ?_⟩
            by_cases e : j = k
            · rw [e, ← HX.out, HE0.out]
            · exact HZ.out j h (by omega)
          case measure => simp [intOf]; omega
        · have hne : ∀ W, (binOp .neq 92 X.v (.agg #[.int .i64 0, .int .i64 0, .int .i64 0, .int .i64 0, .int .i64 0, .int .i64 0, .string ⟨#[]⟩])).run Try.prog W = .ok (.bool true) W := neqm_ne X zM he
          have HF := Lib.hid (HZN.out k hsk hlt (by rw [← HX.out]; exact he))
          clear he
          go_wp2
          go_quiet (fail)
          go_wp2
          go_ret
          exact ⟨ret_i64 HF.out.symm, (HR.out.drewN _).bel⟩
      · have HZA := Lib.hid (show ∀ k, sz ≤ k → k < cs.length → cel cs hd k = zM from fun j h h' => HZ.out j h (by omega))
        have HE' := Lib.hid (HE.out HZA.out)
        have HD' := Lib.hid (HD.out HZA.out)
        have HK' := Lib.hid (HK.out HZA.out)
        clear HE HD HK HZN
        go_wp2_with fail
        refine (HO.out _ (HVK.out.more HR.out.bel.size)).mono ?_
        rintro e w3 ⟨v, rfl, hnw, hl, hb⟩
        have HB3 := Lib.hid (HR.out.bel.trans (hb.mono HR.out.bel.size))
        obtain ⟨A2, cap2, rfl, _, _⟩ := hl.form
        have HL3 := Lib.hid hl
        have hl12 := HLL.out
        clear hb r0 r1 r2 hpl hl hnw
        go_wp2
        go_loopw [6] (fun i wx => ∃ k : Nat, k ≤ l.length ∧ i = .int .i64 k ∧ Below w.heap.size w wx ∧ Below w3.heap.size w3 wx ∧ ∀ j (hj : j < l.length), j < k → vf l[j] = 0) (fun i _ => l.length - (intOf i).toNat)
        case atStart => exact ⟨0, by omega, rfl, HB3.out, Below.refl _ _, fun j _ h => absurd h (by omega)⟩
        case round =>
          obtain ⟨k2, hk2, rfl, hb, hb3, hno⟩ := hrel
          have HNO := Lib.hid hno
          have HLK := Lib.hid (HL3.out.below hb3)
          have HBW := Lib.hid hb
          have HB3W := Lib.hid hb3
          clear hno hb hb3
          by_cases hlt2 : k2 < l.length
          · have HEK := Lib.hid (fun h => fe_hit hlt2 HNO.out h)
            have HVD := Lib.hid (fun w => rvalidate_any l[k2] w)
            obtain ⟨b, o, rfl, hb, c0, c1, c2, c3, c4, c5, c6⟩ := HLK.out.at_ hlt2
            by_cases he : vf l[k2] = 0
            · rw [he] at HVD
              have HNN := Lib.hid (show ∀ j (hj : j < l.length), j < k2 + 1 → vf l[j] = 0 from fun j hj h => by
                by_cases e : j = k2
                · subst e; exact he
                · exact HNO.out j hj (by omega))
              clear he HEK
              generalize l[k2] = X at *
              go_wp2_with fail
              refine (HVD.out _).mono ?_
              rintro e w4 ⟨rfl, hb4⟩
              have HB4 := Lib.hid (HBW.out.trans (hb4.mono HBW.out.size))
              have HB34 := Lib.hid (HB3W.out.trans (hb4.mono HB3W.out.size))
              clear hb4
              go_wp2
              go_roundw
              case rel => exact ⟨k2 + 1, by omega, by go_num, HB4.out, HB34.out, HNN.out⟩
              case measure => simp [intOf]; omega
            · have HRR := Lib.hid (show R = vf l[k2] by rw [← HEK.out he]; exact HE'.out (by rw [HEK.out he]; exact he))
              have hne : (vf l[k2] != 0) = true := bne_iff_ne.2 he
              clear he HEK
              generalize l[k2] = X at *
              generalize vf X = x at *
              go_wp2_with fail
              refine (HVD.out _).mono ?_
              rintro e w4 ⟨rfl, hb4⟩
              have HB4 := Lib.hid (HBW.out.trans (hb4.mono HBW.out.size))
              clear hb4
              go_wp2
              go_ret
              exact ⟨ret_i64 HRR.out.symm, HB4.out⟩
          · have HFE := Lib.hid (show fe l = 0 from fe_all fun M hM => by
              obtain ⟨j, hj, rfl⟩ := List.getElem_of_mem hM
              exact HNO.out j hj (by omega))
            go_wp2
            go_loop [8] (fun i => ∃ k : Nat, k ≤ l.length ∧ i = .int .i64 k ∧ ∀ j (hj : j < l.length), j < k → ixF l l[j].id = j) (fun i => l.length - (intOf i).toNat)
            case atStart => exact ⟨0, by omega, rfl, fun j _ h => absurd h (by omega)⟩
            case round =>
              obtain ⟨k3, hk3, rfl, hix⟩ := hrel
              have HIX := Lib.hid hix
              clear hix
              by_cases hlt3 : k3 < l.length
              · obtain ⟨b, o, rfl, hb, c0, c1, c2, c3, c4, c5, c6⟩ := HLK.out.at_ hlt3
                have HRI := Lib.hid (fun wz => rindex_any (some ⟨b, o, none⟩) l.length cap2 l l[k3].id wz w3.heap.size)
                have HOT := Lib.hid (fun h => ix_other hlt3 h)
                have HNX := Lib.hid (fun (h : ixF l l[k3].id = k3) => (show ∀ j (hj : j < l.length), j < k3 + 1 → ixF l l[j].id = j from fun j hj hjk => by
                  by_cases e : j = k3
                  · subst e; exact h
                  · exact HIX.out j hj (by omega)))
                by_cases he : ixF l l[k3].id = k3
                · have HRI' := Lib.hid (HRI.out _ HLK.out)
                  rw [he] at HRI'
                  have HNY := Lib.hid (HNX.out he)
                  clear he HRI HOT HNX
                  generalize l[k3] = X at *
                  go_wp2_with fail
                  refine HRI'.out.mono ?_
                  rintro e w5 ⟨rfl, rfl⟩
                  go_wp2
                  go_round
                  case rel => exact ⟨k3 + 1, by omega, by go_num, HNY.out⟩
                  case measure => simp [intOf]; omega
                · have HRI' := Lib.hid (HRI.out _ HLK.out)
                  have HRR := Lib.hid (HD'.out HFE.out (HOT.out he))
                  have hne : (ixF l l[k3].id != (k3 : Int)) = true := bne_iff_ne.2 he
                  have hne2 : (ixF l l[k3].id == (k3 : Int)) = false := beq_eq_false_iff_ne.2 he
                  clear he HRI HOT HNX
                  generalize l[k3] = X at *
                  generalize ixF l X.id = x at *
                  go_wp2_with fail
                  refine HRI'.out.mono ?_
                  rintro e w5 ⟨rfl, rfl⟩
                  go_wp2
                  go_ret
                  exact ⟨ret_i64 HRR.out.symm, HBW.out⟩
              · have HRR := Lib.hid (HK'.out HFE.out (dup_none (l := l) fun k hk => HIX.out k hk (by omega)))
                go_wp2
                go_ret
                exact ⟨ret_i64 HRR.out.symm, HBW.out⟩
end Go.Proofs.Ytdilgeabcacbdaa
namespace Go.Proofs.Ytdilgeabcacbdaa
open Go.RowKit
set_option linter.unusedVariables false

theorem dup_pair (l : List Msg) : ¬ dupP l ↔ l.Pairwise (fun a b => a.id ≠ b.id) := by
  rw [List.pairwise_iff_getElem]
  constructor
  · intro h i j hi hj hij e; exact h ⟨i, j, hi, hj, hij, e⟩
  · rintro h ⟨i, j, hi, hj, hij, e⟩; exact h i j hi hj hij e
theorem gd_sub {l m : List Msg} (hs : List.Sublist m l) (hg : Gd l) : Gd m :=
  ⟨fun M hM => hg.1 M (hs.subset hM), (dup_pair m).2 (((dup_pair l).1 hg.2).sublist hs)⟩
section
variable {n hd : Nat} {l : List Msg}
end
end Go.Proofs.Ytdilgeabcacbdaa
