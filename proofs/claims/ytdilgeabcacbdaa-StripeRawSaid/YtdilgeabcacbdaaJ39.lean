/- What is proved here: stripe.Sum and ref11.Sum by contracts; awake of shardqueuelaw11 returns true; boxes of stripes; (plain) nothing old is turned by draws. -/
import Derived.Test.YtdilgeabcacbdaaJ24
import Derived.Deep.QuietTactic
import Derived.BigQuiet
import Derived.Test.YtdilgeabcacbdaaJ38
import Derived.Below
import Derived.WalkKit
namespace Go.Proofs.Ytdilgeabcacbdaa
open Go.RowKit
set_option linter.unusedVariables false

/-- The sums of the first k stripes. -/
theorem su_zero (l : List St) (ep : Int) : suR (l.take 0) ep = 0 ∧ suL (l.take 0) ep = 0 := ⟨rfl, rfl⟩
theorem su_all (l : List St) (ep : Int) : suR (l.take l.length) ep = suR l ep ∧ suL (l.take l.length) ep = suL l ep := by rw [List.take_length]; exact ⟨rfl, rfl⟩
theorem su_rng {l : List St} {k : Nat} (hk : k ≤ l.length) (hl : l.length ≤ 1000) (ep : Int) : (0 ≤ suR (l.take k) ep ∧ suR (l.take k) ep ≤ 1099511627776000) ∧ (0 ≤ suL (l.take k) ep ∧ suL (l.take k) ep ≤ 1099511627776000) := by
  have h1 := suR_rng (l.take k) ep
  have h2 := suL_rng (l.take k) ep
  have h3 : ((l.take k).length : Int) ≤ 1000 := by simp; omega
  omega
theorem su_no {l : List St} {k : Nat} (h : k < l.length) {ep : Int} (hc : ¬ ((tg l k).ep = ep ∧ nbP (tg l k).sq ∧ nbP (tg l k).rd ∧ nbP (tg l k).ls)) : suR (l.take (k + 1)) ep = suR (l.take k) ep ∧ suL (l.take (k + 1)) ep = suL (l.take k) ep := by
  have e := cnB_no hc
  rw [suR_succ h, suL_succ h, e]
  simp
theorem su_yes {l : List St} {k : Nat} (h : k < l.length) {ep : Int} (hc : (tg l k).ep = ep ∧ nbP (tg l k).sq ∧ nbP (tg l k).rd ∧ nbP (tg l k).ls) : suR (l.take (k + 1)) ep = suR (l.take k) ep + (tg l k).rd ∧ suL (l.take (k + 1)) ep = suL (l.take k) ep + (tg l k).ls := by
  have e := cnB_iff.2 hc
  rw [suR_succ h, suL_succ h, e]
  simp
/-- The four ways in which a stripe does not count. -/
theorem cn_ways {s : St} {ep : Int} : (s.ep = ep ∧ nbP s.sq ∧ nbP s.rd ∧ nbP s.ls) ∨ ((s.ep == ep) = false ∧ ¬ (s.ep = ep ∧ nbP s.sq ∧ nbP s.rd ∧ nbP s.ls)) ∨ (((s.ep == ep) = true ∧ nbB s.sq = false) ∧ ¬ (s.ep = ep ∧ nbP s.sq ∧ nbP s.rd ∧ nbP s.ls)) ∨ (((s.ep == ep) = true ∧ nbB s.sq = true ∧ nbB s.rd = false) ∧ ¬ (s.ep = ep ∧ nbP s.sq ∧ nbP s.rd ∧ nbP s.ls)) ∨ (((s.ep == ep) = true ∧ nbB s.sq = true ∧ nbB s.rd = true ∧ nbB s.ls = false) ∧ ¬ (s.ep = ep ∧ nbP s.sq ∧ nbP s.rd ∧ nbP s.ls)) := by
  by_cases h0 : s.ep = ep
  · have h0' : (s.ep == ep) = true := by simpa using h0
    by_cases h1 : nbP s.sq
    · by_cases h2 : nbP s.rd
      · by_cases h3 : nbP s.ls
        · exact .inl ⟨h0, h1, h2, h3⟩
        · exact .inr (.inr (.inr (.inr ⟨⟨h0', nbB_yes h1, nbB_yes h2, nbB_no h3⟩, fun h => h3 h.2.2.2⟩)))
      · exact .inr (.inr (.inr (.inl ⟨⟨h0', nbB_yes h1, nbB_no h2⟩, fun h => h2 h.2.2.1⟩)))
    · exact .inr (.inr (.inl ⟨⟨h0', nbB_no h1⟩, fun h => h1 h.2.1⟩))
  · exact .inr (.inl ⟨by simpa using h0, fun h => h0 h.1⟩)

set_option maxHeartbeats 4000000 in
set_option maxRecDepth 20000 in
theorem ysum_any (A : Option Addr) (n c : Nat) (l : List St) (ep : Int) (w : World) (hv : Tl w w.heap.size (.slice A n c) l) (hl : n ≤ 1000) :
    Calls Try.prog 12 #[.slice A n c, .int .i64 ep] w fun e w' => e = .returned (.tuple #[.int .i64 (suR l ep), .int .i64 (suL l ep)]) ∧ Below w.heap.size w w' := by
  obtain ⟨rfl, hm1, hm2⟩ := hv.len
  have HLL := Lib.hid hl
  have hL : l.length ≤ 9223372036854775807 := by omega
  have HV := Lib.hid hv
  have HB := Lib.hid (Below.refl w.heap.size w)
  have HZ := Lib.hid (su_zero l ep)
  clear hv hm1 hm2 hl
  go_enter Try.func12, Try.ntmps12
  go_wp2
  go_loopw [4, 5, 10] (fun x y i wr => ∃ k : Nat, k ≤ l.length ∧ i = .int .i64 k ∧ x = .int .i64 (suR (l.take k) ep) ∧ y = .int .i64 (suL (l.take k) ep) ∧ Below w.heap.size w wr) (fun _ _ i _ => l.length - (intOf i).toNat)
  case atStart => exact ⟨0, by omega, rfl, by rw [HZ.out.1], by rw [HZ.out.2], HB.out⟩
  case round =>
    obtain ⟨k, hk, rfl, rfl, rfl, hb⟩ := hrel
    have HVK := Lib.hid (HV.out.below hb)
    have HB := Lib.hid hb
    clear hb HZ
    by_cases hlt : k < l.length
    · obtain ⟨b, o, rfl, hb, c0, c1, c2, c3⟩ := HVK.out.atg hlt
      have HQ := Lib.hid (fun w1 => ynumber_any (tg l k).sq w1)
      have HR := Lib.hid (fun w1 => ynumber_any (tg l k).rd w1)
      have HL := Lib.hid (fun w1 => ynumber_any (tg l k).ls w1)
      have HA := Lib.hid (HB.out.alloc HB.out.size (.cells #[.int .i64 (tg l k).sq, .int .i64 (tg l k).ep, .int .i64 (tg l k).rd, .int .i64 (tg l k).ls] 23))
      have HG := Lib.hid (su_rng hk HLL.out ep)
      have HG2 := Lib.hid (su_rng (show k + 1 ≤ l.length by omega) HLL.out ep)
      have hlt' : (k : Int) < (l.length : Int) := by omega
      have hw2 : IntKind.i64.wrap ((k : Int) + 1) = (k : Int) + 1 := IntWalk.i64_in _ (by omega)
      rcases cn_ways (s := tg l k) (ep := ep) with hc | ⟨q0, hc⟩ | ⟨⟨q0, q1⟩, hc⟩ | ⟨⟨q0, q1, q2⟩, hc⟩ | ⟨⟨q0, q1, q2, q3⟩, hc⟩
      · have HS := Lib.hid (su_yes hlt hc)
        rw [HS.out.1, HS.out.2] at HG2
        have q0 : ((tg l k).ep == ep) = true := by simpa using hc.1
        rw [nbB_yes hc.2.1] at HQ
        rw [nbB_yes hc.2.2.1] at HR
        rw [nbB_yes hc.2.2.2] at HL
        have hws1 : IntKind.i64.wrap (suR (l.take k) ep + (tg l k).rd) = suR (l.take k) ep + (tg l k).rd := IntWalk.i64_in _ (by have := HG2.out; omega)
        have hws2 : IntKind.i64.wrap (suL (l.take k) ep + (tg l k).ls) = suL (l.take k) ep + (tg l k).ls := IntWalk.i64_in _ (by have := HG2.out; omega)
        have hws3 : wrap64 (suR (l.take k) ep + (tg l k).rd) = suR (l.take k) ep + (tg l k).rd := IntWalk.wrap64_in _ (by have := HG2.out; omega)
        have hws4 : wrap64 (suL (l.take k) ep + (tg l k).ls) = suL (l.take k) ep + (tg l k).ls := IntWalk.wrap64_in _ (by have := HG2.out; omega)
        clear hc
        generalize suR (l.take k) ep = X at *
        generalize suL (l.take k) ep = Y at *
        generalize tg l k = M at *
        go_wp2_with fail
        refine (HQ.out _).mono ?_
        rintro e w5 ⟨rfl, rfl⟩
        go_wp2_with fail
        refine (HR.out _).mono ?_
        rintro e w6 ⟨rfl, rfl⟩
        go_wp2_with fail
        refine (HL.out _).mono ?_
        rintro e w7 ⟨rfl, rfl⟩
        go_wp2
        go_roundw
        case rel => exact ⟨k + 1, by omega, by go_num, by rw [HS.out.1], by rw [HS.out.2], HA.out⟩
        case measure => simp [intOf]; omega
      · have HS := Lib.hid (su_no hlt hc)
        clear hc
        generalize suR (l.take k) ep = X at *
        generalize suL (l.take k) ep = Y at *
        generalize tg l k = M at *
        go_wp2
        go_roundw
        case rel => exact ⟨k + 1, by omega, by go_num, by rw [HS.out.1], by rw [HS.out.2], HA.out⟩
        case measure => simp [intOf]; omega
      · have HS := Lib.hid (su_no hlt hc)
        rw [q1] at HQ
        clear hc q1
        generalize suR (l.take k) ep = X at *
        generalize suL (l.take k) ep = Y at *
        generalize tg l k = M at *
        go_wp2_with fail
        refine (HQ.out _).mono ?_
        rintro e w5 ⟨rfl, rfl⟩
        go_wp2
        go_roundw
        case rel => exact ⟨k + 1, by omega, by go_num, by rw [HS.out.1], by rw [HS.out.2], HA.out⟩
        case measure => simp [intOf]; omega
      · have HS := Lib.hid (su_no hlt hc)
        rw [q1] at HQ
        rw [q2] at HR
        clear hc q1 q2
        generalize suR (l.take k) ep = X at *
        generalize suL (l.take k) ep = Y at *
        generalize tg l k = M at *
        go_wp2_with fail
        refine (HQ.out _).mono ?_
        rintro e w5 ⟨rfl, rfl⟩
        go_wp2_with fail
        refine (HR.out _).mono ?_
        rintro e w6 ⟨rfl, rfl⟩
        go_wp2
        go_roundw
        case rel => exact ⟨k + 1, by omega, by go_num, by rw [HS.out.1], by rw [HS.out.2], HA.out⟩
        case measure => simp [intOf]; omega
      · have HS := Lib.hid (su_no hlt hc)
        rw [q1] at HQ
        rw [q2] at HR
        rw [q3] at HL
        clear hc q1 q2 q3
        generalize suR (l.take k) ep = X at *
        generalize suL (l.take k) ep = Y at *
        generalize tg l k = M at *
        go_wp2_with fail
        refine (HQ.out _).mono ?_
        rintro e w5 ⟨rfl, rfl⟩
        go_wp2_with fail
        refine (HR.out _).mono ?_
        rintro e w6 ⟨rfl, rfl⟩
        go_wp2_with fail
        refine (HL.out _).mono ?_
        rintro e w7 ⟨rfl, rfl⟩
        go_wp2
        go_roundw
        case rel => exact ⟨k + 1, by omega, by go_num, by rw [HS.out.1], by rw [HS.out.2], HA.out⟩
        case measure => simp [intOf]; omega
    · have hke : k = l.length := by omega
      subst hke
      have HE := Lib.hid (su_all l ep)
      rw [HE.out.1, HE.out.2]
      clear hlt hk
      go_wp2
      exact bodyPost_ret (v := .tuple #[.int .i64 (suR l ep), .int .i64 (suL l ep)]) (by simp only [results, Try.results12]; go_simp <;> rfl) rfl ⟨rfl, HB.out⟩

set_option maxHeartbeats 4000000 in
set_option maxRecDepth 20000 in
theorem rsum_any (A : Option Addr) (n c : Nat) (l : List St) (ep : Int) (w : World) (hv : Tl w w.heap.size (.slice A n c) l) (hl : n ≤ 1000) :
    Calls Try.prog 13 #[.slice A n c, .int .i64 ep] w fun e w' => e = .returned (.tuple #[.int .i64 (suR l ep), .int .i64 (suL l ep)]) ∧ Below w.heap.size w w' := by
  obtain ⟨rfl, hm1, hm2⟩ := hv.len
  have HLL := Lib.hid hl
  have hL : l.length ≤ 9223372036854775807 := by omega
  have HV := Lib.hid hv
  have HB := Lib.hid (Below.refl w.heap.size w)
  have HZ := Lib.hid (su_zero l ep)
  clear hv hm1 hm2 hl
  go_enter Try.func13, Try.ntmps13
  go_wp2
  go_loopw [6, 7, 8] (fun x y i wr => ∃ k : Nat, k ≤ l.length ∧ i = .int .i64 k ∧ x = .int .i64 (suR (l.take k) ep) ∧ y = .int .i64 (suL (l.take k) ep) ∧ Below w.heap.size w wr) (fun _ _ i _ => l.length - (intOf i).toNat)
  case atStart => exact ⟨0, by omega, rfl, by rw [HZ.out.1], by rw [HZ.out.2], HB.out⟩
  case round =>
    obtain ⟨k, hk, rfl, rfl, rfl, hb⟩ := hrel
    have HVK := Lib.hid (HV.out.below hb)
    have HB := Lib.hid hb
    clear hb HZ
    by_cases hlt : k < l.length
    · obtain ⟨b, o, rfl, hb, c0, c1, c2, c3⟩ := HVK.out.atg hlt
      have HQ := Lib.hid (fun w1 => rcounted_any (tg l k).sq w1)
      have HR := Lib.hid (fun w1 => rcounted_any (tg l k).rd w1)
      have HL := Lib.hid (fun w1 => rcounted_any (tg l k).ls w1)
      have HA := Lib.hid (HB.out.alloc HB.out.size (.cells #[.int .i64 (tg l k).sq, .int .i64 (tg l k).ep, .int .i64 (tg l k).rd, .int .i64 (tg l k).ls] 23))
      have HG := Lib.hid (su_rng hk HLL.out ep)
      have HG2 := Lib.hid (su_rng (show k + 1 ≤ l.length by omega) HLL.out ep)
      have hlt' : (k : Int) < (l.length : Int) := by omega
      have hw2 : IntKind.i64.wrap ((k : Int) + 1) = (k : Int) + 1 := IntWalk.i64_in _ (by omega)
      rcases cn_ways (s := tg l k) (ep := ep) with hc | ⟨q0, hc⟩ | ⟨⟨q0, q1⟩, hc⟩ | ⟨⟨q0, q1, q2⟩, hc⟩ | ⟨⟨q0, q1, q2, q3⟩, hc⟩
      · have HS := Lib.hid (su_yes hlt hc)
        rw [HS.out.1, HS.out.2] at HG2
        have q0 : ((tg l k).ep == ep) = true := by simpa using hc.1
        rw [nbB_yes hc.2.1] at HQ
        rw [nbB_yes hc.2.2.1] at HR
        rw [nbB_yes hc.2.2.2] at HL
        have hws1 : IntKind.i64.wrap (suR (l.take k) ep + (tg l k).rd) = suR (l.take k) ep + (tg l k).rd := IntWalk.i64_in _ (by have := HG2.out; omega)
        have hws2 : IntKind.i64.wrap (suL (l.take k) ep + (tg l k).ls) = suL (l.take k) ep + (tg l k).ls := IntWalk.i64_in _ (by have := HG2.out; omega)
        have hws3 : wrap64 (suR (l.take k) ep + (tg l k).rd) = suR (l.take k) ep + (tg l k).rd := IntWalk.wrap64_in _ (by have := HG2.out; omega)
        have hws4 : wrap64 (suL (l.take k) ep + (tg l k).ls) = suL (l.take k) ep + (tg l k).ls := IntWalk.wrap64_in _ (by have := HG2.out; omega)
        clear hc
        generalize suR (l.take k) ep = X at *
        generalize suL (l.take k) ep = Y at *
        generalize tg l k = M at *
        go_wp2_with fail
        refine (HQ.out _).mono ?_
        rintro e w5 ⟨rfl, rfl⟩
        go_wp2_with fail
        refine (HR.out _).mono ?_
        rintro e w6 ⟨rfl, rfl⟩
        go_wp2_with fail
        refine (HL.out _).mono ?_
        rintro e w7 ⟨rfl, rfl⟩
        go_wp2
        go_roundw
        case rel => exact ⟨k + 1, by omega, by go_num, by rw [HS.out.1], by rw [HS.out.2], HB.out⟩
        case measure => simp [intOf]; omega
      · have HS := Lib.hid (su_no hlt hc)
        clear hc
        generalize suR (l.take k) ep = X at *
        generalize suL (l.take k) ep = Y at *
        generalize tg l k = M at *
        go_wp2
        go_roundw
        case rel => exact ⟨k + 1, by omega, by go_num, by rw [HS.out.1], by rw [HS.out.2], HB.out⟩
        case measure => simp [intOf]; omega
      · have HS := Lib.hid (su_no hlt hc)
        rw [q1] at HQ
        clear hc q1
        generalize suR (l.take k) ep = X at *
        generalize suL (l.take k) ep = Y at *
        generalize tg l k = M at *
        go_wp2_with fail
        refine (HQ.out _).mono ?_
        rintro e w5 ⟨rfl, rfl⟩
        go_wp2
        go_roundw
        case rel => exact ⟨k + 1, by omega, by go_num, by rw [HS.out.1], by rw [HS.out.2], HB.out⟩
        case measure => simp [intOf]; omega
      · have HS := Lib.hid (su_no hlt hc)
        rw [q1] at HQ
        rw [q2] at HR
        clear hc q1 q2
        generalize suR (l.take k) ep = X at *
        generalize suL (l.take k) ep = Y at *
        generalize tg l k = M at *
        go_wp2_with fail
        refine (HQ.out _).mono ?_
        rintro e w5 ⟨rfl, rfl⟩
        go_wp2_with fail
        refine (HR.out _).mono ?_
        rintro e w6 ⟨rfl, rfl⟩
        go_wp2
        go_roundw
        case rel => exact ⟨k + 1, by omega, by go_num, by rw [HS.out.1], by rw [HS.out.2], HB.out⟩
        case measure => simp [intOf]; omega
      · have HS := Lib.hid (su_no hlt hc)
        rw [q1] at HQ
        rw [q2] at HR
        rw [q3] at HL
        clear hc q1 q2 q3
        generalize suR (l.take k) ep = X at *
        generalize suL (l.take k) ep = Y at *
        generalize tg l k = M at *
        go_wp2_with fail
        refine (HQ.out _).mono ?_
        rintro e w5 ⟨rfl, rfl⟩
        go_wp2_with fail
        refine (HR.out _).mono ?_
        rintro e w6 ⟨rfl, rfl⟩
        go_wp2_with fail
        refine (HL.out _).mono ?_
        rintro e w7 ⟨rfl, rfl⟩
        go_wp2
        go_roundw
        case rel => exact ⟨k + 1, by omega, by go_num, by rw [HS.out.1], by rw [HS.out.2], HB.out⟩
        case measure => simp [intOf]; omega
    · have hke : k = l.length := by omega
      subst hke
      have HE := Lib.hid (su_all l ep)
      rw [HE.out.1, HE.out.2]
      clear hlt hk
      go_wp2
      exact bodyPost_ret (v := .tuple #[.int .i64 (suR l ep), .int .i64 (suL l ep)]) (by simp only [results, Try.results13]; go_simp <;> rfl) rfl ⟨rfl, HB.out⟩
end Go.Proofs.Ytdilgeabcacbdaa
namespace Go.Proofs.Ytdilgeabcacbdaa
open Go.RowKit
set_option linter.unusedVariables false

/-- Block r holds a stripe. -/
def YT (W : World) (r : Nat) (T : St) : Prop := (W.cell? ⟨r, 0, none⟩ = some (.int .i64 T.sq) ∧ W.cell? ⟨r, 1, none⟩ = some (.int .i64 T.ep) ∧ W.cell? ⟨r, 2, none⟩ = some (.int .i64 T.rd) ∧ W.cell? ⟨r, 3, none⟩ = some (.int .i64 T.ls)) ∧ r < W.heap.size
theorem YT.up {W W' : World} {r : Nat} {T : St} (h : YT W r T) (hb : Below W.heap.size W W') : YT W' r T :=
  ⟨⟨(hb.cell (p := ⟨r, 0, none⟩) h.2).trans h.1.1, (hb.cell (p := ⟨r, 1, none⟩) h.2).trans h.1.2.1, (hb.cell (p := ⟨r, 2, none⟩) h.2).trans h.1.2.2.1, (hb.cell (p := ⟨r, 3, none⟩) h.2).trans h.1.2.2.2⟩, Nat.lt_of_lt_of_le h.2 hb.size⟩
theorem YT.start (w : World) (T : St) (t : TypeId) : YT (w.alloc (.cells #[.int .i64 T.sq, .int .i64 T.ep, .int .i64 T.rd, .int .i64 T.ls] t)) w.heap.size T :=
  ⟨⟨by simp [go_sem], by simp [go_sem], by simp [go_sem], by simp [go_sem]⟩, by simp⟩
theorem rd_two (w : World) (a b : St) (t : TypeId) : Rd (w.alloc (.cells #[.int .i64 a.sq, .int .i64 a.ep, .int .i64 a.rd, .int .i64 a.ls, .int .i64 b.sq, .int .i64 b.ep, .int .i64 b.rd, .int .i64 b.ls] t)) (w.heap.size + 1) 4 (some ⟨w.heap.size, 0, none⟩) 2 (tcs [a, b]) :=
  ⟨rfl, fun _ => ⟨w.heap.size, 0, rfl, Nat.lt_succ_self _, fun i u hu => by
    have hi : i < 8 := by have := (List.getElem?_eq_some_iff.1 hu).1; exact this
    match i, hi with
    | 0, _ => injection hu with hu; subst hu; simp [go_sem]
    | 1, _ => injection hu with hu; subst hu; simp [go_sem]
    | 2, _ => injection hu with hu; subst hu; simp [go_sem]
    | 3, _ => injection hu with hu; subst hu; simp [go_sem]
    | 4, _ => injection hu with hu; subst hu; simp [go_sem]
    | 5, _ => injection hu with hu; subst hu; simp [go_sem]
    | 6, _ => injection hu with hu; subst hu; simp [go_sem]
    | 7, _ => injection hu with hu; subst hu; simp [go_sem]⟩⟩
theorem rd_one (w : World) (a : St) (t : TypeId) : Rd (w.alloc (.cells #[.int .i64 a.sq, .int .i64 a.ep, .int .i64 a.rd, .int .i64 a.ls] t)) (w.heap.size + 1) 4 (some ⟨w.heap.size, 0, none⟩) 1 (tcs [a]) :=
  ⟨rfl, fun _ => ⟨w.heap.size, 0, rfl, Nat.lt_succ_self _, fun i u hu => by
    have hi : i < 4 := by have := (List.getElem?_eq_some_iff.1 hu).1; exact this
    match i, hi with
    | 0, _ => injection hu with hu; subst hu; simp [go_sem]
    | 1, _ => injection hu with hu; subst hu; simp [go_sem]
    | 2, _ => injection hu with hu; subst hu; simp [go_sem]
    | 3, _ => injection hu with hu; subst hu; simp [go_sem]⟩⟩
theorem tl_two (w : World) (a b : St) (t : TypeId) : Tl (w.alloc (.cells #[.int .i64 a.sq, .int .i64 a.ep, .int .i64 a.rd, .int .i64 a.ls, .int .i64 b.sq, .int .i64 b.ep, .int .i64 b.rd, .int .i64 b.ls] t)) (w.alloc (.cells #[.int .i64 a.sq, .int .i64 a.ep, .int .i64 a.rd, .int .i64 a.ls, .int .i64 b.sq, .int .i64 b.ep, .int .i64 b.rd, .int .i64 b.ls] t)).heap.size (.slice (some ⟨w.heap.size, 0, none⟩) 2 2) [a, b] := by
  rw [World.size_alloc]
  exact ⟨_, 2, rfl, Nat.le_refl _, by unfold maxLen; omega, rd_two w a b t⟩
theorem tl_one (w : World) (a : St) (t : TypeId) : Tl (w.alloc (.cells #[.int .i64 a.sq, .int .i64 a.ep, .int .i64 a.rd, .int .i64 a.ls] t)) (w.alloc (.cells #[.int .i64 a.sq, .int .i64 a.ep, .int .i64 a.rd, .int .i64 a.ls] t)).heap.size (.slice (some ⟨w.heap.size, 0, none⟩) 1 1) [a] := by
  rw [World.size_alloc]
  exact ⟨_, 1, rfl, Nat.le_refl _, by unfold maxLen; omega, rd_one w a t⟩

theorem aw11_1 : suR [⟨2, 1, 3, 4⟩, ⟨0, 0, 5, 6⟩] 1 = 3 ∧ suL [⟨2, 1, 3, 4⟩, ⟨0, 0, 5, 6⟩] 1 = 4 ∧ bgE ⟨4, 0, 0, 0⟩ = 0 ∧ bgT ⟨4, 0, 0, 0⟩ = ⟨5, 0, 0, 0⟩ := by decide
set_option maxHeartbeats 4000000 in
set_option maxRecDepth 20000 in
theorem awake11_any (w : World) : Calls Try.prog 18 #[] w fun e w' => e = .returned (.bool true) ∧ Below w.heap.size w w' := by
  have HS := Lib.hid (ysum_any (some ⟨w.heap.size, 0, none⟩) 2 2 [⟨2, 1, 3, 4⟩, ⟨0, 0, 5, 6⟩] 1 _ (tl_two w ⟨2, 1, 3, 4⟩ ⟨0, 0, 5, 6⟩ 23) (by omega))
  have HG := Lib.hid (fun W => ybegin_any ⟨4, 0, 0, 0⟩ W)
  have HB0 := Lib.hid ((Below.refl w.heap.size w).alloc (Nat.le_refl _) (.cells #[.int .i64 2, .int .i64 1, .int .i64 3, .int .i64 4, .int .i64 0, .int .i64 0, .int .i64 5, .int .i64 6] 23))
  rw [aw11_1.1, aw11_1.2.1] at HS
  rw [aw11_1.2.2.1, aw11_1.2.2.2] at HG
  go_enter Try.func18, Try.ntmps18
  go_wp2_with fail
  refine HS.out.mono ?_
  rintro e w1 ⟨rfl, hb⟩
  have HB1 := Lib.hid (HB0.out.trans (hb.mono HB0.out.size))
  clear hb HB0 HS
  go_wp2_with fail
  refine (HG.out _).mono ?_
  rintro e w2 ⟨rfl, hb⟩
  have HB2 := Lib.hid (HB1.out.trans (hb.mono HB1.out.size))
  have HB3 := Lib.hid (HB2.out.alloc HB2.out.size (.cells #[.int .i64 5, .int .i64 0, .int .i64 0, .int .i64 0] 23))
  clear hb HB1 HG
  go_wp2
  go_ret
  exact ⟨rfl, HB3.out⟩
end Go.Proofs.Ytdilgeabcacbdaa
namespace Go.Proofs.Ytdilgeabcacbdaa
open Go.RowKit
theorem bel_drewN {B : Nat} {a w : World} (h : Below B a w) (n : Nat) : Below B a (w.drewN n) := ⟨h.os, h.tape, h.output, h.size, h.block⟩
end Go.Proofs.Ytdilgeabcacbdaa
