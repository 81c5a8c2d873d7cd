/- What is proved here: shardqueueref03.Index by one contract; shardqueueref04.Validate by a contract; (plain) what removals from a ring that is filled with valid messages of different IDs give; (plain) heaps of deadlines: sifting up and down keeps the elements and makes a heap. -/
import Derived.Test.YtdilgeabcacbdaaGreatJ03
import Derived.Test.YtdilgeabcacbdaaGreatJ01
import Derived.IntWalk
import Derived.Test.YtdilgeabcacbdaaGreatJ06
import Derived.Deep.QuietTactic
import Derived.BigQuiet
import Derived.Test.YtdilgeabcacbdaaGreatJ08
import Derived.Test.YtdilgeabcacbdaaGreatJ09
import Derived.ProofKit
namespace Go.Proofs.YtdilgeabcacbdaaGreat
open Go.RowKit
set_option linter.unusedVariables false

theorem rindex_any (A : Option Addr) (n c : Nat) (l : List Msg) (id : Int) (w : World) (B : Nat) (hv : Ls w B (.slice A n c) l) :
    Calls Tryz.prog 56 #[.slice A n c, .int .i64 id] w fun e w' => e = .returned (.int .i64 (ixF l id)) ∧ w = w' := by
  obtain ⟨rfl, hm1, hm2⟩ := hv.len
  have hL : l.length ≤ 9223372036854775807 := by unfold maxLen at hm2; omega
  have HV := Lib.hid hv
  clear hv hm1 hm2
  go_enter Tryz.func56, Tryz.ntmps56
  go_wp2
  go_loop [5] (fun i => ∃ k : Nat, k ≤ l.length ∧ i = .int .i64 k ∧ ∀ j (hj : j < l.length), j < k → l[j].id ≠ id) (fun i => l.length - (intOf i).toNat)
  case atStart => exact ⟨0, by omega, rfl, fun j _ h => absurd h (by omega)⟩
  case round =>
    obtain ⟨k, hk, rfl, hno⟩ := hrel
    have HN := Lib.hid hno
    clear hno
    by_cases hlt : k < l.length
    · obtain ⟨b, o, rfl, hb, c0, -⟩ := HV.out.at_ hlt
      by_cases he : l[k].id = id
      · have HR := Lib.hid (ixF_hit hlt he HN.out)
        have hd : (l[k].id == id) = true := by simpa using he
        clear he
        go_wp2
        go_ret
        exact ⟨by rw [HR.out]; rfl, rfl⟩
      · have hd : (l[k].id == id) = false := by simpa using he
        have HE := Lib.hid he
        clear he
        go_wp2
        go_round
        case rel => exact ⟨k + 1, by omega, by go_num, fun j hj h => by
          by_cases e : j = k
          · subst e; exact HE.out
          · exact HN.out j hj (by omega)⟩
        case measure => simp [intOf]; omega
    · have HR := Lib.hid (ixF_none (id := id) (fun j hj => HN.out j hj (by omega)))
      go_wp2
      go_ret
      exact ⟨by rw [HR.out]; rfl, rfl⟩
end Go.Proofs.YtdilgeabcacbdaaGreat
namespace Go.Proofs.YtdilgeabcacbdaaGreat
open Go.RowKit
set_option linter.unusedVariables false

theorem ix_other {l : List Msg} {k : Nat} (hk : k < l.length) (h : ixF l l[k].id ≠ k) : dupP l := by
  rcases ixF_cases l l[k].id with ⟨_, hn⟩ | ⟨j, hj, e, hi, hn⟩
  · exact absurd rfl (hn k hk)
  · rw [e] at h
    have hjk : j ≠ k := fun e => h (by rw [e])
    rcases Nat.lt_or_ge j k with hlt | hge
    · exact ⟨j, k, hj, hk, hlt, hi⟩
    · exact absurd rfl (hn k hk (by omega))
theorem dup_none {l : List Msg} (h : ∀ k (hk : k < l.length), ixF l l[k].id = k) : ¬ dupP l := by
  rintro ⟨i, j, hi, hj, hij, e⟩
  have h1 := h i hi
  have h2 := h j hj
  rw [e, h2] at h1
  omega

set_option maxHeartbeats 2000000 in
theorem rvalid_no (A : Option Addr) (c : Nat) (cs : List Msg) (hd sz : Int) (w : World) (hm2 : cs.length ≤ maxLen) (h : nmB cs.length hd sz = false) :
    Calls Tryz.prog 52 #[.agg #[.slice A cs.length c, .int .i64 hd, .int .i64 sz]] w (VlT w 1) := by
  have HB := Lib.hid (RgAt.start w A cs.length c hd sz 31).bel
  have hL : (cs.length : Int) ≤ 9223372036854775807 := by unfold maxLen at hm2; omega
  generalize cs.length = n at *
  by_cases a1 : (n : Int) < 1
  · obtain rfl : n = 0 := by omega
    clear h hm2
    go_enter Tryz.func52, Tryz.ntmps52
    go_wp2
    go_ret
    exact ⟨rfl, HB.out⟩
  by_cases a2 : (12 : Int) < (n : Int)
  · clear h hm2
    go_enter Tryz.func52, Tryz.ntmps52
    go_wp2
    go_ret
    exact ⟨rfl, HB.out⟩
  by_cases a3 : hd < 0
  · clear h hm2
    go_enter Tryz.func52, Tryz.ntmps52
    go_wp2
    go_ret
    exact ⟨rfl, HB.out⟩
  by_cases a4 : (n : Int) ≤ hd
  · clear h hm2
    go_enter Tryz.func52, Tryz.ntmps52
    go_wp2
    go_ret
    exact ⟨rfl, HB.out⟩
  by_cases a5 : sz < 0
  · clear h hm2
    go_enter Tryz.func52, Tryz.ntmps52
    go_wp2
    go_ret
    exact ⟨rfl, HB.out⟩
  by_cases a6 : (n : Int) < sz
  · clear h hm2
    go_enter Tryz.func52, Tryz.ntmps52
    go_wp2
    go_ret
    exact ⟨rfl, HB.out⟩
  rw [nm_mk (by omega)] at h
  cases h

set_option maxHeartbeats 8000000 in
set_option maxRecDepth 20000 in
theorem rvalid_any (A : Option Addr) (n c : Nat) (cs : List Msg) (hd sz : Int) (w : World) (hv : Ls w w.heap.size (.slice A n c) cs) :
    Calls Tryz.prog 52 #[.agg #[.slice A n c, .int .i64 hd, .int .i64 sz]] w (VlT w (rgV cs hd sz)) := by
  obtain ⟨rfl, hm1, hm2⟩ := hv.len
  cases h0 : nmB cs.length hd sz with
  | false => rw [rgV_num h0]; exact rvalid_no A c cs hd sz w (by omega) h0
  | true =>
    have HV := Lib.hid hv
    clear hm1 hm2 hv
    obtain ⟨⟨n1, n2⟩, ⟨h1, h2⟩, ⟨s1, s2⟩⟩ := nm_of h0
    obtain ⟨hd, rfl⟩ := Int.eq_ofNat_of_zero_le h1
    obtain ⟨sz, rfl⟩ := Int.eq_ofNat_of_zero_le s1
    have HO := Lib.hid (fun w1 (h : Ls w1 w1.heap.size (.slice A cs.length c) cs) => rorder_any A cs.length c cs hd sz w1 h h0)
    have HZN := Lib.hid (fun k (hk : sz ≤ k) (hl : k < cs.length) (h : cel cs hd k ≠ zM) => rgV_free (sz := (sz : Int)) (hd := (hd : Int)) h0 (fun g => h (g k (by simpa using hk) hl)))
    have HE := Lib.hid (fun hz => rgV_msg (cs := cs) (hd := hd) (sz := sz) h0 hz)
    have HD := Lib.hid (fun hz => rgV_dup (cs := cs) (hd := hd) (sz := sz) h0 hz)
    have HK := Lib.hid (fun hz => rgV_ok (cs := cs) (hd := hd) (sz := sz) h0 hz)
    simp only [Int.toNat_natCast] at HE HD HK
    have hlen := ord_len cs hd sz
    have HLL := Lib.hid (show (ord cs hd sz).length ≤ 12 by omega)
    generalize ord cs hd sz = l at *
    generalize rgV cs hd sz = R at *
    clear hlen h0
    have hc1 : ¬ ((cs.length : Int) < 1) := by omega
    have hc2 : ¬ ((12 : Int) < (cs.length : Int)) := by omega
    have hc3 : ¬ ((cs.length : Int) ≤ (hd : Int)) := by omega
    have hc4 : ¬ ((cs.length : Int) < (sz : Int)) := by omega
    have hn1i : (1 : Int) ≤ (cs.length : Int) := by omega
    have hn2i : (cs.length : Int) ≤ 12 := by omega
    have hnil : ¬ (cs = []) := fun e => by rw [e] at n1; simp at n1
    have hnl0 : ¬ (cs.length = 0) := by omega
    go_enter Tryz.func52, Tryz.ntmps52
    go_wp2
    have HS := Lib.hid (RgAt.start w A cs.length c hd sz 31)
    obtain ⟨p, hp⟩ : ∃ p, p = w.heap.size := ⟨_, rfl⟩
    rw [← hp] at HS ⊢
    have HPP := Lib.hid hp
    clear hp
    go_loopw [4] (fun i wr => ∃ k : Nat, k ≤ cs.length ∧ sz ≤ k ∧ i = .int .i64 k ∧ RgAt w p A cs.length c hd sz wr ∧ ∀ j, sz ≤ j → j < k → cel cs hd j = zM) (fun i _ => cs.length - (intOf i).toNat)
    case atStart => exact ⟨sz, by omega, Nat.le_refl _, rfl, HS.out, fun j h h' => absurd h (by omega)⟩
    case round =>
      obtain ⟨k, hk, hsk, rfl, hr, hz⟩ := hrel
      have HR := Lib.hid hr
      have HZ := Lib.hid hz
      have HVK := Lib.hid (HV.out.below hr.bel)
      obtain ⟨r0, r1, r2, hpl⟩ := hr.facts
      clear hr hz
      by_cases hlt : k < cs.length
      · obtain ⟨m, hm⟩ : ∃ m, m = (hd + k) % cs.length := ⟨_, rfl⟩
        have hml : m < cs.length := by rw [hm]; exact Nat.mod_lt _ (by omega)
        have HX := Lib.hid (cel_get (by omega) m hm hml)
        have hmi : ((hd : Int) + (k : Int)) % (cs.length : Int) = (m : Int) := by rw [hm]; simp
        have hhk : IntKind.i64.wrap ((hd : Int) + (k : Int)) = (hd : Int) + (k : Int) := IntWalk.i64_in _ (by omega)
        have hmt : ((hd : Int) + (k : Int)).tmod (cs.length : Int) = (m : Int) := by rw [Int.tmod_eq_emod_of_nonneg (show 0 ≤ (hd : Int) + (k : Int) by omega)]; exact hmi
        have hml' : (m : Int) < (cs.length : Int) := by omega
        obtain ⟨b, o, rfl, hb, c0, c1, c2, c3, c4, c5, c6⟩ := HVK.out.at_ hml
        generalize cs[m] = X at *
        clear hm hb
        by_cases he : X = zM
        · have hne : ∀ W, (binOp .neq 66 X.v (.agg #[.int .i64 0, .int .i64 0, .int .i64 0, .int .i64 0, .int .i64 0, .int .i64 0, .string ⟨#[]⟩])).run Tryz.prog W = .ok (.bool false) W := by rw [he]; exact neqm zM
          have HE0 := Lib.hid he
          clear he
          go_wp2
          go_quiet (fail)
          go_wp2
          go_roundw
          case rel =>
            refine ⟨k + 1, by omega, by omega, by go_num, HR.out.drewN _, fun j h h' => ?_⟩
            by_cases e : j = k
            · rw [e, ← HX.out, HE0.out]
            · exact HZ.out j h (by omega)
          case measure => simp [intOf]; omega
        · have hne : ∀ W, (binOp .neq 66 X.v (.agg #[.int .i64 0, .int .i64 0, .int .i64 0, .int .i64 0, .int .i64 0, .int .i64 0, .string ⟨#[]⟩])).run Tryz.prog W = .ok (.bool true) W := neqm_ne X zM he
          have HF := Lib.hid (HZN.out k hsk hlt (by rw [← HX.out]; exact he))
          clear he
          go_wp2
          go_quiet (fail)
          go_wp2
          go_ret
          exact ⟨ret_i64 HF.out.symm, (HR.out.drewN _).bel⟩
      · have HZA := Lib.hid (show ∀ k, sz ≤ k → k < cs.length → cel cs hd k = zM from fun j h h' => HZ.out j h (by omega))
        have HE' := Lib.hid (HE.out HZA.out)
        have HD' := Lib.hid (HD.out HZA.out)
        have HK' := Lib.hid (HK.out HZA.out)
        clear HE HD HK HZN
        go_wp2_with fail
        refine (HO.out _ (HVK.out.more HR.out.bel.size)).mono ?_
        rintro e w3 ⟨v, rfl, hnw, hl, hb⟩
        have HB3 := Lib.hid (HR.out.bel.trans (hb.mono HR.out.bel.size))
        obtain ⟨A2, cap2, rfl, _, _⟩ := hl.form
        have HL3 := Lib.hid hl
        have hl12 := HLL.out
        clear hb r0 r1 r2 hpl hl hnw
        go_wp2
        go_loopw [6] (fun i wx => ∃ k : Nat, k ≤ l.length ∧ i = .int .i64 k ∧ Below w.heap.size w wx ∧ Below w3.heap.size w3 wx ∧ ∀ j (hj : j < l.length), j < k → vf l[j] = 0) (fun i _ => l.length - (intOf i).toNat)
        case atStart => exact ⟨0, by omega, rfl, HB3.out, Below.refl _ _, fun j _ h => absurd h (by omega)⟩
        case round =>
          obtain ⟨k2, hk2, rfl, hb, hb3, hno⟩ := hrel
          have HNO := Lib.hid hno
          have HLK := Lib.hid (HL3.out.below hb3)
          have HBW := Lib.hid hb
          have HB3W := Lib.hid hb3
          clear hno hb hb3
          by_cases hlt2 : k2 < l.length
          · have HEK := Lib.hid (fun h => fe_hit hlt2 HNO.out h)
            have HVD := Lib.hid (fun w => rvalidate_any l[k2] w)
            obtain ⟨b, o, rfl, hb, c0, c1, c2, c3, c4, c5, c6⟩ := HLK.out.at_ hlt2
            by_cases he : vf l[k2] = 0
            · rw [he] at HVD
              have HNN := Lib.hid (show ∀ j (hj : j < l.length), j < k2 + 1 → vf l[j] = 0 from fun j hj h => by
                by_cases e : j = k2
                · subst e; exact he
                · exact HNO.out j hj (by omega))
              clear he HEK
              generalize l[k2] = X at *
              go_wp2_with fail
              refine (HVD.out _).mono ?_
              rintro e w4 ⟨rfl, hb4⟩
              have HB4 := Lib.hid (HBW.out.trans (hb4.mono HBW.out.size))
              have HB34 := Lib.hid (HB3W.out.trans (hb4.mono HB3W.out.size))
              clear hb4
              go_wp2
              go_roundw
              case rel => exact ⟨k2 + 1, by omega, by go_num, HB4.out, HB34.out, HNN.out⟩
              case measure => simp [intOf]; omega
            · have HRR := Lib.hid (show R = vf l[k2] by rw [← HEK.out he]; exact HE'.out (by rw [HEK.out he]; exact he))
              have hne : (vf l[k2] != 0) = true := bne_iff_ne.2 he
              clear he HEK
              generalize l[k2] = X at *
              generalize vf X = x at *
              go_wp2_with fail
              refine (HVD.out _).mono ?_
              rintro e w4 ⟨rfl, hb4⟩
              have HB4 := Lib.hid (HBW.out.trans (hb4.mono HBW.out.size))
              clear hb4
              go_wp2
              go_ret
              exact ⟨ret_i64 HRR.out.symm, HB4.out⟩
          · have HFE := Lib.hid (show fe l = 0 from fe_all fun M hM => by
              obtain ⟨j, hj, rfl⟩ := List.getElem_of_mem hM
              exact HNO.out j hj (by omega))
            go_wp2
            go_loop [8] (fun i => ∃ k : Nat, k ≤ l.length ∧ i = .int .i64 k ∧ ∀ j (hj : j < l.length), j < k → ixF l l[j].id = j) (fun i => l.length - (intOf i).toNat)
            case atStart => exact ⟨0, by omega, rfl, fun j _ h => absurd h (by omega)⟩
            case round =>
              obtain ⟨k3, hk3, rfl, hix⟩ := hrel
              have HIX := Lib.hid hix
              clear hix
              by_cases hlt3 : k3 < l.length
              · obtain ⟨b, o, rfl, hb, c0, c1, c2, c3, c4, c5, c6⟩ := HLK.out.at_ hlt3
                have HRI := Lib.hid (fun wz => rindex_any (some ⟨b, o, none⟩) l.length cap2 l l[k3].id wz w3.heap.size)
                have HOT := Lib.hid (fun h => ix_other hlt3 h)
                have HNX := Lib.hid (fun (h : ixF l l[k3].id = k3) => (show ∀ j (hj : j < l.length), j < k3 + 1 → ixF l l[j].id = j from fun j hj hjk => by
                  by_cases e : j = k3
                  · subst e; exact h
                  · exact HIX.out j hj (by omega)))
                by_cases he : ixF l l[k3].id = k3
                · have HRI' := Lib.hid (HRI.out _ HLK.out)
                  rw [he] at HRI'
                  have HNY := Lib.hid (HNX.out he)
                  clear he HRI HOT HNX
                  generalize l[k3] = X at *
                  go_wp2_with fail
                  refine HRI'.out.mono ?_
                  rintro e w5 ⟨rfl, rfl⟩
                  go_wp2
                  go_round
                  case rel => exact ⟨k3 + 1, by omega, by go_num, HNY.out⟩
                  case measure => simp [intOf]; omega
                · have HRI' := Lib.hid (HRI.out _ HLK.out)
                  have HRR := Lib.hid (HD'.out HFE.out (HOT.out he))
                  have hne : (ixF l l[k3].id != (k3 : Int)) = true := bne_iff_ne.2 he
                  have hne2 : (ixF l l[k3].id == (k3 : Int)) = false := beq_eq_false_iff_ne.2 he
                  clear he HRI HOT HNX
                  generalize l[k3] = X at *
                  generalize ixF l X.id = x at *
                  go_wp2_with fail
                  refine HRI'.out.mono ?_
                  rintro e w5 ⟨rfl, rfl⟩
                  go_wp2
                  go_ret
                  exact ⟨ret_i64 HRR.out.symm, HBW.out⟩
              · have HRR := Lib.hid (HK'.out HFE.out (dup_none (l := l) fun k hk => HIX.out k hk (by omega)))
                go_wp2
                go_ret
                exact ⟨ret_i64 HRR.out.symm, HBW.out⟩
end Go.Proofs.YtdilgeabcacbdaaGreat
namespace Go.Proofs.YtdilgeabcacbdaaGreat
open Go.RowKit
set_option linter.unusedVariables false

theorem dup_pair (l : List Msg) : ¬ dupP l ↔ l.Pairwise (fun a b => a.id ≠ b.id) := by
  rw [List.pairwise_iff_getElem]
  constructor
  · intro h i j hi hj hij e; exact h ⟨i, j, hi, hj, hij, e⟩
  · rintro h ⟨i, j, hi, hj, hij, e⟩; exact h i j hi hj hij e
theorem gd_sub {l m : List Msg} (hs : List.Sublist m l) (hg : Gd l) : Gd m :=
  ⟨fun M hM => hg.1 M (hs.subset hM), (dup_pair m).2 (((dup_pair l).1 hg.2).sublist hs)⟩
section
variable {n hd : Nat} {l : List Msg}
end
end Go.Proofs.YtdilgeabcacbdaaGreat
namespace Go.Proofs.YtdilgeabcacbdaaGreat
set_option linter.unusedVariables false

/-- An element. -/
structure Du where
  dl : Int
  id : Int
def zD : Du := ⟨0, 0⟩
/-- It is before another one. -/
def bef (a b : Du) : Bool := decide (a.dl < b.dl ∨ (a.dl = b.dl ∧ a.id < b.id))
theorem bef_iff {a b : Du} : bef a b = true ↔ a.dl < b.dl ∨ (a.dl = b.dl ∧ a.id < b.id) := by unfold bef; exact decide_eq_true_iff
theorem bef_no {a b : Du} : bef a b = false ↔ b.dl < a.dl ∨ (b.dl = a.dl ∧ b.id ≤ a.id) := by
  rw [← Bool.not_eq_true, bef_iff]; omega
theorem bef_irr (a : Du) : bef a a = false := bef_no.2 (by omega)
theorem bef_asym {a b : Du} (h : bef a b = true) : bef b a = false := by
  rw [bef_iff] at h; rw [bef_no]; omega
/-- Not before, along a chain. -/
theorem nbef_trans {a b c : Du} (h : bef a b = false) (k : bef b c = false) : bef a c = false := by
  rw [bef_no] at *; omega
theorem bef_nbef {a b c : Du} (h : bef a b = true) (k : bef c b = false) : bef c a = false := by
  rw [bef_iff] at h; rw [bef_no] at *; omega

/-- The element at a place. -/
def ge (h : List Du) (i : Nat) : Du := h.getD i zD
/-- Two elements are exchanged. -/
def swp (h : List Du) (i k : Nat) : List Du := (h.set i (ge h k)).set k (ge h i)
theorem swp_len (h : List Du) (i k : Nat) : (swp h i k).length = h.length := by simp [swp]
theorem ge_set (h : List Du) (i j : Nat) (x : Du) (hi : i < h.length) : ge (h.set i x) j = if j = i then x else ge h j := by
  unfold ge
  by_cases e : j = i
  · subst e; simp [List.getD, hi]
  · rw [if_neg e]
    simp [List.getD, Ne.symm e]
theorem ge_swp {h : List Du} {i k : Nat} (hi : i < h.length) (hk : k < h.length) (j : Nat) : ge (swp h i k) j = if j = k then ge h i else if j = i then ge h k else ge h j := by
  unfold swp
  rw [ge_set _ _ _ _ (by simpa using hk)]
  by_cases e : j = k
  · rw [if_pos e, if_pos e]
  · rw [if_neg e, if_neg e, ge_set _ _ _ _ hi]

/-- A heap: no element is before its parent. -/
def Hp (h : List Du) : Prop := ∀ j, 0 < j → j < h.length → bef (ge h j) (ge h ((j - 1) / 2)) = false

/-- Sifting up. -/
def upF (h : List Du) (i : Nat) : List Du :=
  if hc : 0 < i ∧ bef (ge h i) (ge h ((i - 1) / 2)) = true then upF (swp h i ((i - 1) / 2)) ((i - 1) / 2) else h
termination_by i
decreasing_by omega
/-- The child that comes first. -/
def chF (h : List Du) (i : Nat) : Nat := if 2 * i + 2 < h.length ∧ bef (ge h (2 * i + 2)) (ge h (2 * i + 1)) = true then 2 * i + 2 else 2 * i + 1
theorem chF_cases (h : List Du) (i : Nat) : chF h i = 2 * i + 1 ∨ chF h i = 2 * i + 2 := by unfold chF; split <;> simp
theorem chF_lt {h : List Du} {i : Nat} (hi : 2 * i + 1 < h.length) : i < chF h i ∧ chF h i < h.length := by
  unfold chF
  split
  · rename_i hc; omega
  · omega
/-- Sifting down. -/
def dnF (h : List Du) (i : Nat) : List Du :=
  if hc : 2 * i + 1 < h.length ∧ bef (ge h (chF h i)) (ge h i) = true then dnF (swp h i (chF h i)) (chF h i) else h
termination_by h.length - i
decreasing_by
  have := chF_lt hc.1
  rw [swp_len]
  omega

theorem perm_set_set {h : List Du} {i k : Nat} (hi : i < h.length) (hk : k < h.length) : (swp h i k).Perm h := by
  unfold swp ge
  rw [List.getD_eq_getElem?_getD, List.getD_eq_getElem?_getD, List.getElem?_eq_getElem hi, List.getElem?_eq_getElem hk]
  simp only [Option.getD_some]
  exact List.set_set_perm hi hk
theorem upF_len (h : List Du) (i : Nat) : (upF h i).length = h.length := by
  induction h, i using upF.induct with
  | case1 h i hc ih => rw [upF, dif_pos hc, ih, swp_len]
  | case2 h i hc => rw [upF, dif_neg hc]
theorem dnF_len (h : List Du) (i : Nat) : (dnF h i).length = h.length := by
  induction h, i using dnF.induct with
  | case1 h i hc ih => rw [dnF, dif_pos hc, ih, swp_len]
  | case2 h i hc => rw [dnF, dif_neg hc]
theorem upF_perm (h : List Du) (i : Nat) (hi : i < h.length) : (upF h i).Perm h := by
  induction h, i using upF.induct with
  | case1 h i hc ih =>
    rw [upF, dif_pos hc]
    exact (ih (by rw [swp_len]; omega)).trans (perm_set_set hi (by omega))
  | case2 h i hc => rw [upF, dif_neg hc]
theorem dnF_perm (h : List Du) (i : Nat) (hi : i < h.length) : (dnF h i).Perm h := by
  induction h, i using dnF.induct with
  | case1 h i hc ih =>
    have := chF_lt hc.1
    rw [dnF, dif_pos hc]
    exact (ih (by rw [swp_len]; omega)).trans (perm_set_set hi this.2)
  | case2 h i hc => rw [dnF, dif_neg hc]

/-- A heap but for the element i, which may be before its parent. -/
def UpOk (h : List Du) (i : Nat) : Prop := (∀ j, 0 < j → j < h.length → j ≠ i → bef (ge h j) (ge h ((j - 1) / 2)) = false) ∧ ∀ j, 0 < j → j < h.length → (j - 1) / 2 = i → 0 < i → bef (ge h j) (ge h ((i - 1) / 2)) = false
theorem upF_heap (h : List Du) (i : Nat) (hi : i < h.length) (hu : UpOk h i) : Hp (upF h i) := by
  induction h, i using upF.induct with
  | case1 h i hc ih =>
    obtain ⟨h0, hb⟩ := hc
    rw [upF, dif_pos ⟨h0, hb⟩]
    have hp : (i - 1) / 2 < h.length := by omega
    refine ih (by rw [swp_len]; exact hp) ⟨fun j j0 jl jn => ?_, fun j j0 jl je p0 => ?_⟩
    · rw [swp_len] at jl
      rw [ge_swp hi hp, ge_swp hi hp, if_neg jn]
      by_cases e : j = i
      · subst e
        rw [if_pos rfl, if_pos rfl]
        exact bef_asym hb
      · rw [if_neg e]
        by_cases e1 : (j - 1) / 2 = (i - 1) / 2
        · rw [if_pos e1]
          exact bef_nbef hb (by have := hu.1 j j0 jl e; rw [e1] at this; exact this)
        · rw [if_neg e1]
          by_cases e2 : (j - 1) / 2 = i
          · rw [if_pos e2]
            exact hu.2 j j0 jl e2 h0
          · rw [if_neg e2]
            exact hu.1 j j0 jl e
    · rw [swp_len] at jl
      have hne : (((i - 1) / 2) - 1) / 2 ≠ (i - 1) / 2 := by omega
      have hne2 : (((i - 1) / 2) - 1) / 2 ≠ i := by omega
      rw [ge_swp hi hp, ge_swp hi hp, if_neg hne, if_neg hne2, if_neg (by omega)]
      have hpp := hu.1 ((i - 1) / 2) p0 hp (by omega)
      by_cases e : j = i
      · rw [if_pos e]; exact hpp
      · rw [if_neg e]
        have := hu.1 j j0 jl e
        rw [je] at this
        exact nbef_trans this hpp
  | case2 h i hc =>
    rw [upF, dif_neg hc]
    intro j j0 jl
    by_cases e : j = i
    · subst e
      cases hb : bef (ge h j) (ge h ((j - 1) / 2)) with
      | false => rfl
      | true => exact absurd ⟨j0, hb⟩ hc
    · exact hu.1 j j0 jl e

/-- A heap but for the element i, which its children may be before. -/
def DnOk (h : List Du) (i : Nat) : Prop := (∀ j, 0 < j → j < h.length → (j - 1) / 2 ≠ i → bef (ge h j) (ge h ((j - 1) / 2)) = false) ∧ ∀ j, 0 < j → j < h.length → (j - 1) / 2 = i → 0 < i → bef (ge h j) (ge h ((i - 1) / 2)) = false
theorem dnF_heap (h : List Du) (i : Nat) (hi : i < h.length) (hd : DnOk h i) : Hp (dnF h i) := by
  induction h, i using dnF.induct with
  | case1 h i hc ih =>
    obtain ⟨hl, hb⟩ := hc
    have hk := chF_lt hl
    rw [dnF, dif_pos ⟨hl, hb⟩]
    have hcc := chF_cases h i
    have hpar : (chF h i - 1) / 2 = i := by omega
    -- the other child is not before the chosen one
    have hoth : ∀ j, 0 < j → j < h.length → (j - 1) / 2 = i → bef (ge h j) (ge h (chF h i)) = false := by
      intro j j0 jl je
      by_cases e : j = chF h i
      · rw [e]; exact bef_irr _
      · unfold chF at e ⊢
        by_cases hx : 2 * i + 2 < h.length ∧ bef (ge h (2 * i + 2)) (ge h (2 * i + 1)) = true
        · rw [if_pos hx] at e ⊢
          have : j = 2 * i + 1 := by omega
          rw [this]
          exact bef_asym hx.2
        · rw [if_neg hx] at e ⊢
          have e2 : j = 2 * i + 2 := by omega
          rw [e2] at jl ⊢
          cases hb2 : bef (ge h (2 * i + 2)) (ge h (2 * i + 1)) with
          | false => rfl
          | true => exact absurd ⟨jl, hb2⟩ hx
    generalize chF h i = k at *
    refine ih (by rw [swp_len]; omega) ⟨fun j j0 jl jn => ?_, fun j j0 jl je p0 => ?_⟩
    · rw [swp_len] at jl
      rw [ge_swp hi hk.2, ge_swp hi hk.2]
      by_cases e : j = k
      · subst e
        rw [if_pos rfl, hpar, if_neg (by omega), if_pos rfl]
        exact bef_asym hb
      · rw [if_neg e, if_neg jn]
        by_cases e1 : j = i
        · subst e1
          rw [if_pos rfl, if_neg (by omega)]
          exact hd.2 k (by omega) hk.2 hpar j0
        · rw [if_neg e1]
          by_cases e2 : (j - 1) / 2 = i
          · rw [if_pos e2]
            exact hoth j j0 jl e2
          · rw [if_neg e2]
            exact hd.1 j j0 jl e2
    · rw [swp_len] at jl
      rw [ge_swp hi hk.2, ge_swp hi hk.2, if_neg (by omega), if_neg (by omega), hpar, if_neg (by omega), if_pos rfl]
      have := hd.1 j j0 jl (by omega)
      rw [je] at this
      exact this
  | case2 h i hc =>
    rw [dnF, dif_neg hc]
    intro j j0 jl
    by_cases e : (j - 1) / 2 = i
    · rw [e]
      have hl : 2 * i + 1 < h.length := by omega
      have hk : bef (ge h (chF h i)) (ge h i) = false := by
        cases hb : bef (ge h (chF h i)) (ge h i) with
        | false => rfl
        | true => exact absurd ⟨hl, hb⟩ hc
      unfold chF at hk
      by_cases hx : 2 * i + 2 < h.length ∧ bef (ge h (2 * i + 2)) (ge h (2 * i + 1)) = true
      · rw [if_pos hx] at hk
        by_cases e2 : j = 2 * i + 2
        · rw [e2]; exact hk
        · rw [show j = 2 * i + 1 by omega]
          exact nbef_trans (bef_asym hx.2) hk
      · rw [if_neg hx] at hk
        by_cases e2 : j = 2 * i + 1
        · rw [e2]; exact hk
        · have e3 : j = 2 * i + 2 := by omega
          rw [e3] at jl ⊢
          have : bef (ge h (2 * i + 2)) (ge h (2 * i + 1)) = false := by
            cases hb2 : bef (ge h (2 * i + 2)) (ge h (2 * i + 1)) with
            | false => rfl
            | true => exact absurd ⟨jl, hb2⟩ hx
          exact nbef_trans this hk
    · exact hd.1 j j0 jl e
theorem ge_take {h : List Du} {n j : Nat} (hj : j < n) : ge (h.take n) j = ge h j := by
  unfold ge
  rw [List.getD_eq_getElem?_getD, List.getD_eq_getElem?_getD, List.getElem?_take, if_pos hj]
theorem hp_take {h : List Du} (hh : Hp h) (n : Nat) : Hp (h.take n) := by
  intro j j0 jl
  rw [List.length_take] at jl
  rw [ge_take (by omega), ge_take (by omega)]
  exact hh j j0 (by omega)
/-- The element i is removed: the last one takes its place. -/
def cuF (h : List Du) (i : Nat) : List Du :=
  if i = h.length - 1 then h.take (h.length - 1)
  else if 0 < i ∧ bef (ge ((h.take (h.length - 1)).set i (ge h (h.length - 1))) i) (ge ((h.take (h.length - 1)).set i (ge h (h.length - 1))) ((i - 1) / 2)) = true then upF ((h.take (h.length - 1)).set i (ge h (h.length - 1))) i
  else dnF ((h.take (h.length - 1)).set i (ge h (h.length - 1))) i
theorem cuF_len {h : List Du} {i : Nat} (hi : i < h.length) : (cuF h i).length = h.length - 1 := by
  unfold cuF
  split
  · rw [List.length_take]; omega
  · split
    · rw [upF_len, List.length_set, List.length_take]; omega
    · rw [dnF_len, List.length_set, List.length_take]; omega
theorem take_last {h : List Du} (h0 : 0 < h.length) : h = h.take (h.length - 1) ++ [ge h (h.length - 1)] := by
  have e : ge h (h.length - 1) = h[h.length - 1]'(by omega) := by
    unfold ge; rw [List.getD_eq_getElem?_getD, List.getElem?_eq_getElem (by omega)]; rfl
  have k := List.take_append_getElem (l := h) (i := h.length - 1) (by omega)
  rw [e, k, List.take_of_length_le (by omega)]
theorem set_perm (x : Du) : ∀ (ys : List Du) (i : Nat), i < ys.length → (ys.set i x).Perm (x :: ys.eraseIdx i)
  | [], i, h => by simp at h
  | a :: ys, 0, _ => by simp
  | a :: ys, i + 1, h => by
    simp only [List.set_cons_succ, List.eraseIdx_cons_succ]
    exact ((set_perm x ys i (by simpa using h)).cons a).trans (List.Perm.swap _ _ _)
theorem cuF_perm {h : List Du} {i : Nat} (hi : i < h.length) : (cuF h i).Perm (h.eraseIdx i) := by
  have ht := take_last (h := h) (by omega)
  have hl : (h.take (h.length - 1)).length = h.length - 1 := by rw [List.length_take]; omega
  unfold cuF
  by_cases e : i = h.length - 1
  · rw [if_pos e, e, List.eraseIdx_eq_take_drop_succ, List.drop_eq_nil_of_le (by omega), List.append_nil]
  · rw [if_neg e]
    have hs : ((h.take (h.length - 1)).set i (ge h (h.length - 1))).Perm (h.eraseIdx i) := by
      have h1 := set_perm (ge h (h.length - 1)) (h.take (h.length - 1)) i (by omega)
      refine h1.trans ?_
      have h2 : h.eraseIdx i = (h.take (h.length - 1)).eraseIdx i ++ [ge h (h.length - 1)] := by
        have this : h.eraseIdx i = (h.take (h.length - 1) ++ [ge h (h.length - 1)]).eraseIdx i := congrArg (fun x => List.eraseIdx x i) ht
        rw [this, List.eraseIdx_append_of_lt_length (by omega)]
      rw [h2]
      exact (List.perm_append_singleton _ _).symm
    have hsl : i < ((h.take (h.length - 1)).set i (ge h (h.length - 1))).length := by rw [List.length_set]; omega
    split
    · exact (upF_perm _ _ hsl).trans hs
    · exact (dnF_perm _ _ hsl).trans hs
theorem cuF_heap {h : List Du} {i : Nat} (hi : i < h.length) (hh : Hp h) : Hp (cuF h i) := by
  have hl : (h.take (h.length - 1)).length = h.length - 1 := by rw [List.length_take]; omega
  unfold cuF
  by_cases e : i = h.length - 1
  · rw [if_pos e]; exact hp_take hh _
  · rw [if_neg e]
    have hi1 : i < h.length - 1 := by omega
    obtain ⟨y, hy⟩ : ∃ y, y = (h.take (h.length - 1)).set i (ge h (h.length - 1)) := ⟨_, rfl⟩
    have hyl : y.length = h.length - 1 := by rw [hy, List.length_set, hl]
    have hg : ∀ j, j < h.length - 1 → ge y j = if j = i then ge h (h.length - 1) else ge h j := fun j hj => by
      rw [hy, ge_set _ _ _ _ (by omega)]
      split
      · rfl
      · exact ge_take hj
    rw [← hy]
    by_cases hc : 0 < i ∧ bef (ge y i) (ge y ((i - 1) / 2)) = true
    · rw [if_pos hc]
      obtain ⟨h0, hb⟩ := hc
      rw [hg i hi1, if_pos rfl, hg _ (by omega), if_neg (by omega)] at hb
      refine upF_heap y i (by omega) ⟨fun j j0 jl jn => ?_, fun j j0 jl je p0 => ?_⟩
      · rw [hg j (by omega), if_neg jn, hg _ (by omega)]
        by_cases e1 : (j - 1) / 2 = i
        · rw [if_pos e1]
          have k1 := hh j j0 (by omega)
          rw [e1] at k1
          exact bef_nbef hb (nbef_trans k1 (hh i h0 (by omega)))
        · rw [if_neg e1]; exact hh j j0 (by omega)
      · rw [hg j (by omega), if_neg (by omega), hg _ (by omega), if_neg (by omega)]
        have k1 := hh j j0 (by omega)
        rw [je] at k1
        exact nbef_trans k1 (hh i h0 (by omega))
    · rw [if_neg hc]
      refine dnF_heap y i (by omega) ⟨fun j j0 jl jn => ?_, fun j j0 jl je p0 => ?_⟩
      · rw [hg _ (show (j - 1) / 2 < h.length - 1 by omega), if_neg jn]
        by_cases e1 : j = i
        · rw [e1]
          rw [e1] at j0 jn
          cases hb : bef (ge y i) (ge h ((i - 1) / 2)) with
          | false => rfl
          | true => exact absurd ⟨j0, by rw [hg _ (show (i - 1) / 2 < h.length - 1 by omega), if_neg (by omega)]; exact hb⟩ hc
        · rw [hg j (by omega), if_neg e1]
          exact hh j j0 (by omega)
      · rw [hg j (by omega), if_neg (by omega), hg _ (show (i - 1) / 2 < h.length - 1 by omega), if_neg (by omega)]
        have k1 := hh j j0 (by omega)
        rw [je] at k1
        exact nbef_trans k1 (hh i p0 (by omega))
/-- Adding an element. -/
def hpu (h : List Du) (d : Du) : List Du := upF (h ++ [d]) h.length
theorem puF_len (h : List Du) (d : Du) : (hpu h d).length = h.length + 1 := by unfold hpu; rw [upF_len]; simp
theorem puF_perm (h : List Du) (d : Du) : (hpu h d).Perm (d :: h) := (upF_perm _ _ (by simp)).trans (List.perm_append_singleton _ _)
theorem ge_snoc {h : List Du} {d : Du} {j : Nat} (hj : j < h.length) : ge (h ++ [d]) j = ge h j := by
  unfold ge
  simp [List.getD, List.getElem?_append_left hj]
theorem puF_heap {h : List Du} (hh : Hp h) (d : Du) : Hp (hpu h d) := by
  refine upF_heap _ _ (by simp) ⟨fun j j0 jl jn => ?_, fun j j0 jl je p0 => ?_⟩
  · simp at jl
    rw [ge_snoc (by omega), ge_snoc (by omega)]
    exact hh j j0 (by omega)
  · simp at jl
    omega
theorem ge_mem {h : List Du} {d : Du} (hd : d ∈ h) : ∃ j, j < h.length ∧ ge h j = d := by
  obtain ⟨j, hj, e⟩ := List.getElem_of_mem hd
  exact ⟨j, hj, by unfold ge; rw [List.getD_eq_getElem?_getD, List.getElem?_eq_getElem hj]; exact e⟩
theorem mem_ge {h : List Du} {j : Nat} (hj : j < h.length) : ge h j ∈ h := by
  unfold ge
  rw [List.getD_eq_getElem?_getD, List.getElem?_eq_getElem hj]
  exact List.getElem_mem hj
/-- An element in range. -/
def snd (d : Du) : Bool := decide (0 ≤ d.dl ∧ d.dl ≤ 1073741824 ∧ 1 ≤ d.id ∧ d.id ≤ 1073741824)
/-- Two elements have the same ID. -/
def dupD (h : List Du) : Prop := ∃ (i j : Nat), i < j ∧ j < h.length ∧ (ge h i).id = (ge h j).id
open Classical in
/-- The first error of a heap. -/
noncomputable def vaF (h : List Du) : Int :=
  if 12 < h.length then 2 else if ¬ (∀ j, j < h.length → snd (ge h j) = true) then 1 else if dupD h then 10 else if ¬ Hp h then 11 else 0
theorem vaF_zero {h : List Du} (e : vaF h = 0) : h.length ≤ 12 ∧ (∀ j, j < h.length → snd (ge h j) = true) ∧ ¬ dupD h ∧ Hp h := by
  unfold vaF at e
  by_cases h1 : 12 < h.length
  · rw [if_pos h1] at e; exact absurd e (by decide)
  · rw [if_neg h1] at e
    by_cases h2 : ∀ j, j < h.length → snd (ge h j) = true
    · rw [if_neg (by simpa using h2)] at e
      by_cases h3 : dupD h
      · rw [if_pos h3] at e; exact absurd e (by decide)
      · rw [if_neg h3] at e
        by_cases h4 : Hp h
        · exact ⟨by omega, h2, h3, h4⟩
        · rw [if_pos h4] at e; exact absurd e (by decide)
    · rw [if_pos h2] at e; exact absurd e (by decide)
theorem vaF_ok {h : List Du} (h1 : h.length ≤ 12) (h2 : ∀ j, j < h.length → snd (ge h j) = true) (h3 : ¬ dupD h) (h4 : Hp h) : vaF h = 0 := by
  unfold vaF
  rw [if_neg (by omega), if_neg (by simpa using h2), if_neg h3, if_neg (by simpa using h4)]
/-- In the words of lists: so that a permutation keeps it. -/
theorem dupD_iff (h : List Du) : ¬ dupD h ↔ (h.map Du.id).Nodup := by
  rw [List.nodup_iff_pairwise_ne, List.pairwise_map, List.pairwise_iff_getElem]
  have e : ∀ i (hi : i < h.length), ge h i = h[i] := fun i hi => by unfold ge; rw [List.getD_eq_getElem?_getD, List.getElem?_eq_getElem hi]; rfl
  constructor
  · intro k i j hi hj hij he; exact k ⟨i, j, hij, hj, by rw [e i hi, e j hj]; exact he⟩
  · rintro k ⟨i, j, hij, hj, he⟩; exact k i j (by omega) hj hij (by rw [← e i (by omega), ← e j hj]; exact he)
theorem snd_iff (h : List Du) : (∀ j, j < h.length → snd (ge h j) = true) ↔ ∀ d ∈ h, snd d = true :=
  ⟨fun k d hd => by obtain ⟨j, hj, rfl⟩ := ge_mem hd; exact k j hj, fun k j hj => k _ (mem_ge hj)⟩
/-- What adding a new element in range, and removing one, give: valid heaps. -/
theorem vaF_push {h : List Du} {d : Du} (hv : vaF h = 0) (hd : snd d = true) (hl : h.length < 12) (hi : ∀ x ∈ h, x.id ≠ d.id) : vaF (hpu h d) = 0 := by
  obtain ⟨h1, h2, h3, h4⟩ := vaF_zero hv
  have hp := puF_perm h d
  refine vaF_ok (by rw [puF_len]; omega) ((snd_iff _).2 fun x hx => ?_) ((dupD_iff _).2 ?_) (puF_heap h4 d)
  · rcases List.mem_cons.1 (hp.mem_iff.1 hx) with e | e
    · rw [e]; exact hd
    · exact (snd_iff h).1 h2 x e
  · rw [(hp.map Du.id).nodup_iff, List.map_cons, List.nodup_cons]
    refine ⟨fun k => ?_, (dupD_iff h).1 h3⟩
    obtain ⟨x, hx, e⟩ := List.mem_map.1 k
    exact hi x hx e
theorem vaF_cut {h : List Du} {i : Nat} (hv : vaF h = 0) (hi : i < h.length) : vaF (cuF h i) = 0 := by
  obtain ⟨h1, h2, h3, h4⟩ := vaF_zero hv
  have hp := cuF_perm hi
  refine vaF_ok (by rw [cuF_len hi]; omega) ((snd_iff _).2 fun x hx => ?_) ((dupD_iff _).2 ?_) (cuF_heap hi h4)
  · exact (snd_iff h).1 h2 x ((List.eraseIdx_sublist h i).subset (hp.mem_iff.1 hx))
  · rw [(hp.map Du.id).nodup_iff]
    exact ((dupD_iff h).1 h3).sublist ((List.eraseIdx_sublist h i).map _)
end Go.Proofs.YtdilgeabcacbdaaGreat
