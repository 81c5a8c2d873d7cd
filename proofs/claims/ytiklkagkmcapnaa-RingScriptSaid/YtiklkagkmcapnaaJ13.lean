/- What is proved here: shardqueueref04.Validate by a contract; (plain) what removals from a ring that is filled with valid messages of different IDs give; (plain) what Detach and Absorb of rings return. -/
import Derived.Test.YtiklkagkmcapnaaJ08
import Derived.Test.YtiklkagkmcapnaaJ12
import Derived.Deep.QuietTactic
import Derived.BigQuiet
import Derived.Test.YtiklkagkmcapnaaJ11
namespace Go.Proofs.Ytiklkagkmcapnaa
open Go.RowKit
set_option linter.unusedVariables false

theorem ix_self {l : List Msg} (h : ¬ dupP l) {k : Nat} (hk : k < l.length) : ixF l l[k].id = k :=
  ixF_hit hk rfl (fun j hj hlt e => h ⟨j, k, hj, hk, hlt, e⟩)
theorem ix_other {l : List Msg} {k : Nat} (hk : k < l.length) (h : ixF l l[k].id ≠ k) : dupP l := by
  rcases ixF_cases l l[k].id with ⟨_, hn⟩ | ⟨j, hj, e, hi, hn⟩
  · exact absurd rfl (hn k hk)
  · rw [e] at h
    have hjk : j ≠ k := fun e => h (by rw [e])
    rcases Nat.lt_or_ge j k with hlt | hge
    · exact ⟨j, k, hj, hk, hlt, hi⟩
    · exact absurd rfl (hn k hk (by omega))
theorem dup_none {l : List Msg} (h : ∀ k (hk : k < l.length), ixF l l[k].id = k) : ¬ dupP l := by
  rintro ⟨i, j, hi, hj, hij, e⟩
  have h1 := h i hi
  have h2 := h j hj
  rw [e, h2] at h1
  omega

set_option maxHeartbeats 2000000 in
theorem rvalid_no (A : Option Addr) (c : Nat) (cs : List Msg) (hd sz : Int) (w : World) (hm2 : cs.length ≤ maxLen) (h : nmB cs.length hd sz = false) :
    Calls Try.prog 32 #[.agg #[.slice A cs.length c, .int .i64 hd, .int .i64 sz]] w (VlT w 1) := by
  have HB := Lib.hid (RgAt.start w A cs.length c hd sz 24).bel
  have hL : (cs.length : Int) ≤ 9223372036854775807 := by unfold maxLen at hm2; omega
  generalize cs.length = n at *
  by_cases a1 : (n : Int) < 1
  · obtain rfl : n = 0 := by omega
    clear h hm2
    go_enter Try.func32, Try.ntmps32
    go_wp2
    go_ret
    exact ⟨rfl, HB.out⟩
  by_cases a2 : (12 : Int) < (n : Int)
  · clear h hm2
    go_enter Try.func32, Try.ntmps32
    go_wp2
    go_ret
    exact ⟨rfl, HB.out⟩
  by_cases a3 : hd < 0
  · clear h hm2
    go_enter Try.func32, Try.ntmps32
    go_wp2
    go_ret
    exact ⟨rfl, HB.out⟩
  by_cases a4 : (n : Int) ≤ hd
  · clear h hm2
    go_enter Try.func32, Try.ntmps32
    go_wp2
    go_ret
    exact ⟨rfl, HB.out⟩
  by_cases a5 : sz < 0
  · clear h hm2
    go_enter Try.func32, Try.ntmps32
    go_wp2
    go_ret
    exact ⟨rfl, HB.out⟩
  by_cases a6 : (n : Int) < sz
  · clear h hm2
    go_enter Try.func32, Try.ntmps32
    go_wp2
    go_ret
    exact ⟨rfl, HB.out⟩
  rw [nm_mk (by omega)] at h
  cases h

set_option maxHeartbeats 8000000 in
set_option maxRecDepth 20000 in
theorem rvalid_any (A : Option Addr) (n c : Nat) (cs : List Msg) (hd sz : Int) (w : World) (hv : Ls w w.heap.size (.slice A n c) cs) :
    Calls Try.prog 32 #[.agg #[.slice A n c, .int .i64 hd, .int .i64 sz]] w (VlT w (rgV cs hd sz)) := by
  obtain ⟨rfl, hm1, hm2⟩ := hv.len
  cases h0 : nmB cs.length hd sz with
  | false => rw [rgV_num h0]; exact rvalid_no A c cs hd sz w (by omega) h0
  | true =>
    have HV := Lib.hid hv
    clear hm1 hm2 hv
    obtain ⟨⟨n1, n2⟩, ⟨h1, h2⟩, ⟨s1, s2⟩⟩ := nm_of h0
    obtain ⟨hd, rfl⟩ := Int.eq_ofNat_of_zero_le h1
    obtain ⟨sz, rfl⟩ := Int.eq_ofNat_of_zero_le s1
    have HO := Lib.hid (fun w1 (h : Ls w1 w1.heap.size (.slice A cs.length c) cs) => rorder_any A cs.length c cs hd sz w1 h h0)
    have HZN := Lib.hid (fun k (hk : sz ≤ k) (hl : k < cs.length) (h : cel cs hd k ≠ zM) => rgV_free (sz := (sz : Int)) (hd := (hd : Int)) h0 (fun g => h (g k (by simpa using hk) hl)))
    have HE := Lib.hid (fun hz => rgV_msg (cs := cs) (hd := hd) (sz := sz) h0 hz)
    have HD := Lib.hid (fun hz => rgV_dup (cs := cs) (hd := hd) (sz := sz) h0 hz)
    have HK := Lib.hid (fun hz => rgV_ok (cs := cs) (hd := hd) (sz := sz) h0 hz)
    simp only [Int.toNat_natCast] at HE HD HK
    have hlen := ord_len cs hd sz
    have HLL := Lib.hid (show (ord cs hd sz).length ≤ 12 by omega)
    generalize ord cs hd sz = l at *
    generalize rgV cs hd sz = R at *
    clear hlen h0
    have hc1 : ¬ ((cs.length : Int) < 1) := by omega
    have hc2 : ¬ ((12 : Int) < (cs.length : Int)) := by omega
    have hc3 : ¬ ((cs.length : Int) ≤ (hd : Int)) := by omega
    have hc4 : ¬ ((cs.length : Int) < (sz : Int)) := by omega
    have hn1i : (1 : Int) ≤ (cs.length : Int) := by omega
    have hn2i : (cs.length : Int) ≤ 12 := by omega
    have hnil : ¬ (cs = []) := fun e => by rw [e] at n1; simp at n1
    have hnl0 : ¬ (cs.length = 0) := by omega
    go_enter Try.func32, Try.ntmps32
    go_wp2
    have HS := Lib.hid (RgAt.start w A cs.length c hd sz 24)
    obtain ⟨p, hp⟩ : ∃ p, p = w.heap.size := ⟨_, rfl⟩
    rw [← hp] at HS ⊢
    have HPP := Lib.hid hp
    clear hp
    go_loopw [4] (fun i wr => ∃ k : Nat, k ≤ cs.length ∧ sz ≤ k ∧ i = .int .i64 k ∧ RgAt w p A cs.length c hd sz wr ∧ ∀ j, sz ≤ j → j < k → cel cs hd j = zM) (fun i _ => cs.length - (intOf i).toNat)
    case atStart => exact ⟨sz, by omega, Nat.le_refl _, rfl, HS.out, fun j h h' => absurd h (by omega)⟩
    case round =>
      obtain ⟨k, hk, hsk, rfl, hr, hz⟩ := hrel
      have HR := Lib.hid hr
      have HZ := Lib.hid hz
      have HVK := Lib.hid (HV.out.below hr.bel)
      obtain ⟨r0, r1, r2, hpl⟩ := hr.facts
      clear hr hz
      by_cases hlt : k < cs.length
      · obtain ⟨m, hm⟩ : ∃ m, m = (hd + k) % cs.length := ⟨_, rfl⟩
        have hml : m < cs.length := by rw [hm]; exact Nat.mod_lt _ (by omega)
        have HX := Lib.hid (cel_get (by omega) m hm hml)
        have hmi : ((hd : Int) + (k : Int)) % (cs.length : Int) = (m : Int) := by rw [hm]; simp
        have hhk : IntKind.i64.wrap ((hd : Int) + (k : Int)) = (hd : Int) + (k : Int) := IntWalk.i64_in _ (by omega)
        have hmt : ((hd : Int) + (k : Int)).tmod (cs.length : Int) = (m : Int) := by rw [Int.tmod_eq_emod_of_nonneg (show 0 ≤ (hd : Int) + (k : Int) by omega)]; exact hmi
        have hml' : (m : Int) < (cs.length : Int) := by omega
        obtain ⟨b, o, rfl, hb, c0, c1, c2, c3, c4, c5, c6⟩ := HVK.out.at_ hml
        generalize cs[m] = X at *
        clear hm hb
        by_cases he : X = zM
        · have hne : ∀ W, (binOp .neq 26 X.v (.agg #[.int .i64 0, .int .i64 0, .int .i64 0, .int .i64 0, .int .i64 0, .int .i64 0, .string ⟨#[]⟩])).run Try.prog W = .ok (.bool false) W := by rw [he]; exact neqm zM
          have HE0 := Lib.hid he
          clear he
          go_wp2
          go_quiet (fail)
          go_wp2
          go_roundw
          case rel =>
            refine ⟨k + 1, by omega, by omega, by go_num, HR.out.drewN _, fun j h h' => ?_⟩
            by_cases e : j = k
            · rw [e, ← HX.out, HE0.out]
            · exact HZ.out j h (by omega)
          case measure => simp [intOf]; omega
        · have hne : ∀ W, (binOp .neq 26 X.v (.agg #[.int .i64 0, .int .i64 0, .int .i64 0, .int .i64 0, .int .i64 0, .int .i64 0, .string ⟨#[]⟩])).run Try.prog W = .ok (.bool true) W := neqm_ne X zM he
          have HF := Lib.hid (HZN.out k hsk hlt (by rw [← HX.out]; exact he))
          clear he
          go_wp2
          go_quiet (fail)
          go_wp2
          go_ret
          exact ⟨ret_i64 HF.out.symm, (HR.out.drewN _).bel⟩
      · have HZA := Lib.hid (show ∀ k, sz ≤ k → k < cs.length → cel cs hd k = zM from fun j h h' => HZ.out j h (by omega))
        have HE' := Lib.hid (HE.out HZA.out)
        have HD' := Lib.hid (HD.out HZA.out)
        have HK' := Lib.hid (HK.out HZA.out)
        clear HE HD HK HZN
        go_wp2_with fail
        refine (HO.out _ (HVK.out.more HR.out.bel.size)).mono ?_
        rintro e w3 ⟨v, rfl, hnw, hl, hb⟩
        have HB3 := Lib.hid (HR.out.bel.trans (hb.mono HR.out.bel.size))
        obtain ⟨A2, cap2, rfl, _, _⟩ := hl.form
        have HL3 := Lib.hid hl
        have hl12 := HLL.out
        clear hb r0 r1 r2 hpl hl hnw
        go_wp2
        go_loopw [6] (fun i wx => ∃ k : Nat, k ≤ l.length ∧ i = .int .i64 k ∧ Below w.heap.size w wx ∧ Below w3.heap.size w3 wx ∧ ∀ j (hj : j < l.length), j < k → vf l[j] = 0) (fun i _ => l.length - (intOf i).toNat)
        case atStart => exact ⟨0, by omega, rfl, HB3.out, Below.refl _ _, fun j _ h => absurd h (by omega)⟩
        case round =>
          obtain ⟨k2, hk2, rfl, hb, hb3, hno⟩ := hrel
          have HNO := Lib.hid hno
          have HLK := Lib.hid (HL3.out.below hb3)
          have HBW := Lib.hid hb
          have HB3W := Lib.hid hb3
          clear hno hb hb3
          by_cases hlt2 : k2 < l.length
          · have HEK := Lib.hid (fun h => fe_hit hlt2 HNO.out h)
            have HVD := Lib.hid (fun w => rvalidate_any l[k2] w)
            obtain ⟨b, o, rfl, hb, c0, c1, c2, c3, c4, c5, c6⟩ := HLK.out.at_ hlt2
            by_cases he : vf l[k2] = 0
            · rw [he] at HVD
              have HNN := Lib.hid (show ∀ j (hj : j < l.length), j < k2 + 1 → vf l[j] = 0 from fun j hj h => by
                by_cases e : j = k2
                · subst e; exact he
                · exact HNO.out j hj (by omega))
              clear he HEK
              generalize l[k2] = X at *
              go_wp2_with fail
              refine (HVD.out _).mono ?_
              rintro e w4 ⟨rfl, hb4⟩
              have HB4 := Lib.hid (HBW.out.trans (hb4.mono HBW.out.size))
              have HB34 := Lib.hid (HB3W.out.trans (hb4.mono HB3W.out.size))
              clear hb4
              go_wp2
              go_roundw
              case rel => exact ⟨k2 + 1, by omega, by go_num, HB4.out, HB34.out, HNN.out⟩
              case measure => simp [intOf]; omega
            · have HRR := Lib.hid (show R = vf l[k2] by rw [← HEK.out he]; exact HE'.out (by rw [HEK.out he]; exact he))
              have hne : (vf l[k2] != 0) = true := bne_iff_ne.2 he
              clear he HEK
              generalize l[k2] = X at *
              generalize vf X = x at *
              go_wp2_with fail
              refine (HVD.out _).mono ?_
              rintro e w4 ⟨rfl, hb4⟩
              have HB4 := Lib.hid (HBW.out.trans (hb4.mono HBW.out.size))
              clear hb4
              go_wp2
              go_ret
              exact ⟨ret_i64 HRR.out.symm, HB4.out⟩
          · have HFE := Lib.hid (show fe l = 0 from fe_all fun M hM => by
              obtain ⟨j, hj, rfl⟩ := List.getElem_of_mem hM
              exact HNO.out j hj (by omega))
            go_wp2
            go_loop [8] (fun i => ∃ k : Nat, k ≤ l.length ∧ i = .int .i64 k ∧ ∀ j (hj : j < l.length), j < k → ixF l l[j].id = j) (fun i => l.length - (intOf i).toNat)
            case atStart => exact ⟨0, by omega, rfl, fun j _ h => absurd h (by omega)⟩
            case round =>
              obtain ⟨k3, hk3, rfl, hix⟩ := hrel
              have HIX := Lib.hid hix
              clear hix
              by_cases hlt3 : k3 < l.length
              · obtain ⟨b, o, rfl, hb, c0, c1, c2, c3, c4, c5, c6⟩ := HLK.out.at_ hlt3
                have HRI := Lib.hid (fun wz => rindex_any (some ⟨b, o, none⟩) l.length cap2 l l[k3].id wz w3.heap.size)
                have HOT := Lib.hid (fun h => ix_other hlt3 h)
                have HNX := Lib.hid (fun (h : ixF l l[k3].id = k3) => (show ∀ j (hj : j < l.length), j < k3 + 1 → ixF l l[j].id = j from fun j hj hjk => by
                  by_cases e : j = k3
                  · subst e; exact h
                  · exact HIX.out j hj (by omega)))
                by_cases he : ixF l l[k3].id = k3
                · have HRI' := Lib.hid (HRI.out _ HLK.out)
                  rw [he] at HRI'
                  have HNY := Lib.hid (HNX.out he)
                  clear he HRI HOT HNX
                  generalize l[k3] = X at *
                  go_wp2_with fail
                  refine HRI'.out.mono ?_
                  rintro e w5 ⟨rfl, rfl⟩
                  go_wp2
                  go_round
                  case rel => exact ⟨k3 + 1, by omega, by go_num, HNY.out⟩
                  case measure => simp [intOf]; omega
                · have HRI' := Lib.hid (HRI.out _ HLK.out)
                  have HRR := Lib.hid (HD'.out HFE.out (HOT.out he))
                  have hne : (ixF l l[k3].id != (k3 : Int)) = true := bne_iff_ne.2 he
                  have hne2 : (ixF l l[k3].id == (k3 : Int)) = false := beq_eq_false_iff_ne.2 he
                  clear he HRI HOT HNX
                  generalize l[k3] = X at *
                  generalize ixF l X.id = x at *
                  go_wp2_with fail
                  refine HRI'.out.mono ?_
                  rintro e w5 ⟨rfl, rfl⟩
                  go_wp2
                  go_ret
                  exact ⟨ret_i64 HRR.out.symm, HBW.out⟩
              · have HRR := Lib.hid (HK'.out HFE.out (dup_none (l := l) fun k hk => HIX.out k hk (by omega)))
                go_wp2
                go_ret
                exact ⟨ret_i64 HRR.out.symm, HBW.out⟩
end Go.Proofs.Ytiklkagkmcapnaa
namespace Go.Proofs.Ytiklkagkmcapnaa
open Go.RowKit
set_option linter.unusedVariables false

theorem dup_pair (l : List Msg) : ¬ dupP l ↔ l.Pairwise (fun a b => a.id ≠ b.id) := by
  rw [List.pairwise_iff_getElem]
  constructor
  · intro h i j hi hj hij e; exact h ⟨i, j, hi, hj, hij, e⟩
  · rintro h ⟨i, j, hi, hj, hij, e⟩; exact h i j hi hj hij e
theorem gd_sub {l m : List Msg} (hs : List.Sublist m l) (hg : Gd l) : Gd m :=
  ⟨fun M hM => hg.1 M (hs.subset hM), (dup_pair m).2 (((dup_pair l).1 hg.2).sublist hs)⟩
theorem gd_erase {l : List Msg} (hg : Gd l) (i : Nat) : Gd (l.eraseIdx i) := gd_sub (List.eraseIdx_sublist _ _) hg
theorem gd_take {l : List Msg} (hg : Gd l) (i : Nat) : Gd (l.take i) := gd_sub (List.take_sublist _ _) hg
section
variable {n hd : Nat} {l : List Msg}
theorem rm_fil (h1 : 1 ≤ n) (h2 : n ≤ 12) (hh : hd < n) (hl : l.length ≤ n) (hg : Gd l) {i : Nat} (hi : i < l.length) :
    rmE (fil n hd l) (hd : Int) (l.length : Int) l[i].id = 0 ∧ rmC (fil n hd l) (hd : Int) (l.length : Int) l[i].id = fil n hd (l.eraseIdx i) ∧ rmM (fil n hd l) (hd : Int) (l.length : Int) l[i].id = l[i] := by
  have hv := rgV_fil h1 h2 hh hl hg
  have ho : ord (fil n hd l) (hd : Int).toNat (l.length : Int).toNat = l := by simp only [Int.toNat_natCast]; exact ord_fil l hh hl
  have hx := ix_self hg.2 hi
  have he : rmE (fil n hd l) (hd : Int) (l.length : Int) l[i].id = 0 := by
    unfold rmE
    rw [if_neg (by simpa using hv), ho, hx, if_neg (by omega)]
  refine ⟨he, ?_, ?_⟩
  · unfold rmC
    rw [if_pos he, ho, hx, fil_len]
    simp only [Int.toNat_natCast]
  · unfold rmM
    rw [if_pos he, ho, hx]
    simp only [Int.toNat_natCast]
    rw [cel_fil l hh (by omega)]
    simp [List.getD, hi]
theorem rm_none (h1 : 1 ≤ n) (h2 : n ≤ 12) (hh : hd < n) (hl : l.length ≤ n) (hg : Gd l) {id : Int} (hi : ∀ M ∈ l, M.id ≠ id) :
    rmE (fil n hd l) (hd : Int) (l.length : Int) id = 4 := by
  have hv := rgV_fil h1 h2 hh hl hg
  have ho : ord (fil n hd l) (hd : Int).toNat (l.length : Int).toNat = l := by simp only [Int.toNat_natCast]; exact ord_fil l hh hl
  unfold rmE
  rw [if_neg (by simpa using hv), ho, ixF_none (fun j hj => hi _ (List.getElem_mem hj)), if_pos (by decide)]
end
end Go.Proofs.Ytiklkagkmcapnaa
namespace Go.Proofs.Ytiklkagkmcapnaa
open Go.RowKit
set_option linter.unusedVariables false

/-- The error of Detach. -/
noncomputable def dtE (cs : List Msg) (hd sz k : Int) : Int := if rgV cs hd sz ≠ 0 then rgV cs hd sz else if wi k 0 sz = true then 0 else 1
/-- What Detach returns: the cells and the messages. -/
noncomputable def dtC (cs : List Msg) (hd sz k : Int) : List Msg := if dtE cs hd sz k = 0 then fil cs.length hd.toNat ((ord cs hd.toNat sz.toNat).take (sz - k).toNat) else []
noncomputable def dtL (cs : List Msg) (hd sz k : Int) : List Msg := if dtE cs hd sz k = 0 then (ord cs hd.toNat sz.toNat).drop (sz - k).toNat else []
theorem dtE_zero {cs : List Msg} {hd sz k : Int} (h : dtE cs hd sz k = 0) : rgV cs hd sz = 0 ∧ 0 ≤ k ∧ k ≤ sz := by
  unfold dtE at h
  by_cases h0 : rgV cs hd sz = 0
  · rw [if_neg (by simpa using h0)] at h
    by_cases h1 : wi k 0 sz = true
    · have := wi_of h1; exact ⟨h0, this.1, this.2⟩
    · rw [if_neg h1] at h; exact absurd h (by decide)
  · rw [if_pos h0] at h; exact absurd h h0

/-- The error of the pushes of Absorb. -/
noncomputable def abE (cs : List Msg) (hd sz : Int) : List Msg → Int
  | [] => 0
  | M :: r => if puE cs hd sz M = 0 then abE (pbC cs hd sz M) hd (sz + 1) r else puE cs hd sz M
/-- The cells after them. -/
noncomputable def abS (cs : List Msg) (hd sz : Int) : List Msg → List Msg
  | [] => cs
  | M :: r => abS (pbC cs hd sz M) hd (sz + 1) r
/-- The error of Absorb. -/
noncomputable def aoE (cs : List Msg) (hd sz : Int) (l : List Msg) : Int := if rgV cs hd sz ≠ 0 then rgV cs hd sz else if (cs.length : Int) - sz < (l.length : Int) then 3 else abE cs hd sz l
noncomputable def aoC (cs : List Msg) (hd sz : Int) (l : List Msg) : List Msg := if aoE cs hd sz l = 0 then abS cs hd sz l else []
theorem abE_hit {cs : List Msg} {hd sz : Int} {M : Msg} {r : List Msg} (h : puE cs hd sz M ≠ 0) : abE cs hd sz (M :: r) = puE cs hd sz M := if_neg h
theorem abE_step {cs : List Msg} {hd sz : Int} {M : Msg} {r : List Msg} (h : puE cs hd sz M = 0) : abE cs hd sz (M :: r) = abE (pbC cs hd sz M) hd (sz + 1) r := if_pos h
theorem pbC_len {cs : List Msg} {hd sz : Int} {M : Msg} (h : puE cs hd sz M = 0) : (pbC cs hd sz M).length = cs.length := by
  unfold pbC; rw [if_pos h, fil_len]
section
variable {n hd : Nat} {l : List Msg}
theorem dt_fil (h1 : 1 ≤ n) (h2 : n ≤ 12) (hh : hd < n) (hl : l.length ≤ n) (hg : Gd l) {k : Nat} (hk : k ≤ l.length) :
    dtE (fil n hd l) (hd : Int) (l.length : Int) (k : Int) = 0 ∧ dtC (fil n hd l) (hd : Int) (l.length : Int) (k : Int) = fil n hd (l.take (l.length - k)) ∧ dtL (fil n hd l) (hd : Int) (l.length : Int) (k : Int) = l.drop (l.length - k) := by
  have hv := rgV_fil h1 h2 hh hl hg
  have ho : ord (fil n hd l) (hd : Int).toNat (l.length : Int).toNat = l := by simp only [Int.toNat_natCast]; exact ord_fil l hh hl
  have he : dtE (fil n hd l) (hd : Int) (l.length : Int) (k : Int) = 0 := by
    unfold dtE
    rw [if_neg (by simpa using hv), if_pos (wi_true (by omega) (by omega))]
  have hs : ((l.length : Int) - (k : Int)).toNat = l.length - k := by omega
  refine ⟨he, ?_, ?_⟩
  · unfold dtC
    rw [if_pos he, ho, fil_len, hs]
    simp only [Int.toNat_natCast]
  · unfold dtL
    rw [if_pos he, ho, hs]
theorem ab_fil (h1 : 1 ≤ n) (h2 : n ≤ 12) (hh : hd < n) (P : List Msg) : ∀ (l : List Msg), l.length + P.length ≤ n → Gd (l ++ P) → abE (fil n hd l) (hd : Int) (l.length : Int) P = 0 ∧ abS (fil n hd l) (hd : Int) (l.length : Int) P = fil n hd (l ++ P) := by
  induction P with
  | nil => intro l _ _; exact ⟨rfl, by simp [abS]⟩
  | cons M P ih =>
    intro l hl hg
    simp only [List.length_cons] at hl
    have hgl : Gd l := gd_sub (List.sublist_append_left _ _) hg
    have hM : vf M = 0 := hg.1 M (by simp)
    have hi : ∀ N ∈ l, N.id ≠ M.id := fun N hN => by
      have h := (dup_pair _).1 hg.2
      rw [List.pairwise_append] at h
      exact h.2.2 N hN M (by simp)
    have hp := puE_fil h1 h2 hh (by omega) hgl hM hi
    have hc := pbC_fil h1 h2 hh (by omega) hgl hM hi
    have hg2 : Gd (l ++ [M] ++ P) := by simpa using hg
    have h := ih (l ++ [M]) (by simp; omega) hg2
    have e : (((l ++ [M]).length : Nat) : Int) = (l.length : Int) + 1 := by simp
    rw [e] at h
    refine ⟨?_, ?_⟩
    · rw [abE_step hp, hc]; exact h.1
    · show abS (pbC (fil n hd l) (hd : Int) (l.length : Int) M) hd ((l.length : Int) + 1) P = _
      rw [hc, h.2]
      simp
theorem ao_fil (h1 : 1 ≤ n) (h2 : n ≤ 12) (hh : hd < n) {P : List Msg} (hl : l.length + P.length ≤ n) (hg : Gd (l ++ P)) : aoE (fil n hd l) (hd : Int) (l.length : Int) P = 0 ∧ aoC (fil n hd l) (hd : Int) (l.length : Int) P = fil n hd (l ++ P) := by
  have hgl : Gd l := gd_sub (List.sublist_append_left _ _) hg
  have hv := rgV_fil h1 h2 hh (by omega) hgl
  have h := ab_fil h1 h2 hh P l hl hg
  have he : aoE (fil n hd l) (hd : Int) (l.length : Int) P = 0 := by
    unfold aoE
    rw [if_neg (by simpa using hv), if_neg (by rw [fil_len]; omega)]
    exact h.1
  exact ⟨he, by unfold aoC; rw [if_pos he]; exact h.2⟩
end
/-- A result that is a ring, messages and an error. -/
def RLP (w : World) (cs : List Msg) (hd sz : Int) (l : List Msg) (x : Int) (e : Ending) (w' : World) : Prop := ∃ A c A2 c2, e = .returned (.tuple #[.agg #[.slice A cs.length c, .int .i64 hd, .int .i64 sz], .slice A2 l.length c2, .int .i64 x]) ∧ Nw w.heap.size A ∧ Nw w.heap.size A2 ∧ Ls w' w'.heap.size (.slice A cs.length c) cs ∧ Ls w' w'.heap.size (.slice A2 l.length c2) l ∧ Below w.heap.size w w'
/-- A result that is a ring, perhaps with the cells of the argument, and an error. -/
def RQP (w : World) (A0 : Option Addr) (cs : List Msg) (hd sz x : Int) (e : Ending) (w' : World) : Prop := ∃ A c, e = .returned (.tuple #[.agg #[.slice A cs.length c, .int .i64 hd, .int .i64 sz], .int .i64 x]) ∧ (Nw w.heap.size A ∨ A = A0) ∧ Ls w' w'.heap.size (.slice A cs.length c) cs ∧ Below w.heap.size w w'
end Go.Proofs.Ytiklkagkmcapnaa
