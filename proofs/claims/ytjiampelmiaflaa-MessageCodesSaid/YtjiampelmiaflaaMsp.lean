/- What is proved here: Purged, Spent, Receivable, Deliver, Revive, Reroute of message and their references, each by one contract for all arguments. -/
import Derived.Test.YtjiampelmiaflaaMst
namespace Go.Proofs.Ytjiampelmiaflaa
open Go.RowKit
set_option linter.unusedVariables false

def puF (M : Msg) (e : Int) : Bool := decide (M.ep < e)
def spF (M : Msg) (l : Int) : Bool := decide (l ≤ M.ct)
def rvF (M : Msg) (e l : Int) : Bool := !puF M e && (!spF M l && decide (M.gn < 65536))

theorem purged_any (M : Msg) (k : Int) (w : World) : Calls Try.prog 13 #[M.v, .int .i64 k] w fun e w' => e = .returned (.bool (puF M k)) ∧ Below w.heap.size w w' := by
  have HB := Lib.hid ((Below.refl w.heap.size w).alloc (Nat.le_refl _) (.cells M.cs 23))
  by_cases h : M.ep < k
  · have HF := Lib.hid (show puF M k = true from decide_eq_true h)
    go_enter Try.func13, Try.ntmps13
    go_wp2
    go_ret
    exact ⟨by rw [HF.out]; rfl, HB.out⟩
  · have HF := Lib.hid (show puF M k = false from decide_eq_false h)
    go_enter Try.func13, Try.ntmps13
    go_wp2
    go_ret
    exact ⟨by rw [HF.out]; rfl, HB.out⟩

theorem spent_any (M : Msg) (k : Int) (w : World) : Calls Try.prog 15 #[M.v, .int .i64 k] w fun e w' => e = .returned (.bool (spF M k)) ∧ Below w.heap.size w w' := by
  have HB := Lib.hid ((Below.refl w.heap.size w).alloc (Nat.le_refl _) (.cells M.cs 23))
  by_cases h : k ≤ M.ct
  · have HF := Lib.hid (show spF M k = true from decide_eq_true h)
    go_enter Try.func15, Try.ntmps15
    go_wp2
    go_ret
    exact ⟨by rw [HF.out]; rfl, HB.out⟩
  · have HF := Lib.hid (show spF M k = false from decide_eq_false h)
    go_enter Try.func15, Try.ntmps15
    go_wp2
    go_ret
    exact ⟨by rw [HF.out]; rfl, HB.out⟩

set_option maxHeartbeats 1000000 in
theorem receivable_any (M : Msg) (k l : Int) (w : World) : Calls Try.prog 17 #[M.v, .int .i64 k, .int .i64 l] w fun e w' => e = .returned (.bool (rvF M k l)) ∧ Below w.heap.size w w' := by
  have HB := Lib.hid ((Below.refl w.heap.size w).alloc (Nat.le_refl _) (.cells M.cs 23))
  have HP := Lib.hid (fun w => purged_any M k w)
  have HS := Lib.hid (fun w => spent_any M l w)
  cases hp : puF M k with
  | true =>
    have HF := Lib.hid (show rvF M k l = false by simp [rvF, hp])
    rw [hp] at HP
    clear hp
    go_enter Try.func17, Try.ntmps17
    go_wp2_with fail
    refine (HP.out _).mono ?_
    rintro e w1 ⟨rfl, hb⟩
    obtain ⟨hc1, hf1⟩ := bcell hb
    have HB1 := Lib.hid (HB.out.trans (hb.mono HB.out.size))
    have hz1 := hb.size
    try simp at hz1
    clear hb
    go_wp2
    go_ret
    exact ⟨by rw [HF.out]; rfl, HB1.out⟩
  | false =>
    rw [hp] at HP
    cases hs : spF M l with
    | true =>
      have HF := Lib.hid (show rvF M k l = false by simp [rvF, hp, hs])
      rw [hs] at HS
      clear hp hs
      go_enter Try.func17, Try.ntmps17
      go_wp2_with fail
      refine (HP.out _).mono ?_
      rintro e w1 ⟨rfl, hb⟩
      obtain ⟨hc1, hf1⟩ := bcell hb
      have HB1 := Lib.hid (HB.out.trans (hb.mono HB.out.size))
      have hz1 := hb.size
      try simp at hz1
      clear hb
      go_wp2_with fail
      refine (HS.out _).mono ?_
      rintro e w2 ⟨rfl, hb⟩
      obtain ⟨hc2, hf2⟩ := bcell hb
      have HB2 := Lib.hid (HB1.out.trans (hb.mono HB1.out.size))
      have hz2 := hb.size
      try simp at hz2
      clear hb
      go_wp2
      go_ret
      exact ⟨by rw [HF.out]; rfl, HB2.out⟩
    | false =>
      rw [hs] at HS
      by_cases hg : M.gn < 65536
      · have HF := Lib.hid (show rvF M k l = true by simp [rvF, hp, hs, hg])
        clear hp hs
        go_enter Try.func17, Try.ntmps17
        go_wp2_with fail
        refine (HP.out _).mono ?_
        rintro e w1 ⟨rfl, hb⟩
        obtain ⟨hc1, hf1⟩ := bcell hb
        have HB1 := Lib.hid (HB.out.trans (hb.mono HB.out.size))
        have hz1 := hb.size
        try simp at hz1
        clear hb
        go_wp2_with fail
        refine (HS.out _).mono ?_
        rintro e w2 ⟨rfl, hb⟩
        obtain ⟨hc2, hf2⟩ := bcell hb
        have HB2 := Lib.hid (HB1.out.trans (hb.mono HB1.out.size))
        have hz2 := hb.size
        try simp at hz2
        clear hb
        have hlt : w.heap.size < w1.heap.size := by omega
        go_wp2
        go_ret
        exact ⟨by rw [HF.out]; rfl, HB2.out⟩
      · have HF := Lib.hid (show rvF M k l = false by simp [rvF, hp, hs]; omega)
        clear hp hs
        go_enter Try.func17, Try.ntmps17
        go_wp2_with fail
        refine (HP.out _).mono ?_
        rintro e w1 ⟨rfl, hb⟩
        obtain ⟨hc1, hf1⟩ := bcell hb
        have HB1 := Lib.hid (HB.out.trans (hb.mono HB.out.size))
        have hz1 := hb.size
        try simp at hz1
        clear hb
        go_wp2_with fail
        refine (HS.out _).mono ?_
        rintro e w2 ⟨rfl, hb⟩
        obtain ⟨hc2, hf2⟩ := bcell hb
        have HB2 := Lib.hid (HB1.out.trans (hb.mono HB1.out.size))
        have hz2 := hb.size
        try simp at hz2
        clear hb
        have hlt : w.heap.size < w1.heap.size := by omega
        go_wp2
        go_ret
        exact ⟨by rw [HF.out, ← decide_eq_false (show ¬ M.gn < 65536 by omega)]; rfl, HB2.out⟩

theorem rpurged_any (M : Msg) (k : Int) (w : World) : Calls Try.prog 14 #[M.v, .int .i64 k] w fun e w' => e = .returned (.bool (puF M k)) ∧ Below w.heap.size w w' := by
  have HB := Lib.hid ((Below.refl w.heap.size w).alloc (Nat.le_refl _) (.cells M.cs 23))
  by_cases h : M.ep < k
  · have HF := Lib.hid (show puF M k = true from decide_eq_true h)
    go_enter Try.func14, Try.ntmps14
    go_wp2
    go_ret
    exact ⟨by rw [HF.out]; rfl, HB.out⟩
  · have HF := Lib.hid (show puF M k = false from decide_eq_false h)
    go_enter Try.func14, Try.ntmps14
    go_wp2
    go_ret
    exact ⟨by rw [HF.out]; rfl, HB.out⟩

theorem rspent_any (M : Msg) (k : Int) (w : World) : Calls Try.prog 16 #[M.v, .int .i64 k] w fun e w' => e = .returned (.bool (spF M k)) ∧ Below w.heap.size w w' := by
  have HB := Lib.hid ((Below.refl w.heap.size w).alloc (Nat.le_refl _) (.cells M.cs 23))
  by_cases h : k ≤ M.ct
  · have HF := Lib.hid (show spF M k = true from decide_eq_true h)
    go_enter Try.func16, Try.ntmps16
    go_wp2
    go_ret
    exact ⟨by rw [HF.out]; rfl, HB.out⟩
  · have HF := Lib.hid (show spF M k = false from decide_eq_false h)
    go_enter Try.func16, Try.ntmps16
    go_wp2
    go_ret
    exact ⟨by rw [HF.out]; rfl, HB.out⟩

set_option maxHeartbeats 1000000 in
theorem rreceivable_any (M : Msg) (k l : Int) (w : World) : Calls Try.prog 18 #[M.v, .int .i64 k, .int .i64 l] w fun e w' => e = .returned (.bool (rvF M k l)) ∧ Below w.heap.size w w' := by
  have HB := Lib.hid ((Below.refl w.heap.size w).alloc (Nat.le_refl _) (.cells M.cs 23))
  have HP := Lib.hid (fun w => rpurged_any M k w)
  have HS := Lib.hid (fun w => rspent_any M l w)
  cases hp : puF M k with
  | true =>
    have HF := Lib.hid (show rvF M k l = false by simp [rvF, hp])
    rw [hp] at HP
    clear hp
    go_enter Try.func18, Try.ntmps18
    go_wp2_with fail
    refine (HP.out _).mono ?_
    rintro e w1 ⟨rfl, hb⟩
    obtain ⟨hc1, hf1⟩ := bcell hb
    have HB1 := Lib.hid (HB.out.trans (hb.mono HB.out.size))
    have hz1 := hb.size
    try simp at hz1
    clear hb
    go_wp2
    go_ret
    exact ⟨by rw [HF.out]; rfl, HB1.out⟩
  | false =>
    rw [hp] at HP
    cases hs : spF M l with
    | true =>
      have HF := Lib.hid (show rvF M k l = false by simp [rvF, hp, hs])
      rw [hs] at HS
      clear hp hs
      go_enter Try.func18, Try.ntmps18
      go_wp2_with fail
      refine (HP.out _).mono ?_
      rintro e w1 ⟨rfl, hb⟩
      obtain ⟨hc1, hf1⟩ := bcell hb
      have HB1 := Lib.hid (HB.out.trans (hb.mono HB.out.size))
      have hz1 := hb.size
      try simp at hz1
      clear hb
      go_wp2_with fail
      refine (HS.out _).mono ?_
      rintro e w2 ⟨rfl, hb⟩
      obtain ⟨hc2, hf2⟩ := bcell hb
      have HB2 := Lib.hid (HB1.out.trans (hb.mono HB1.out.size))
      have hz2 := hb.size
      try simp at hz2
      clear hb
      go_wp2
      go_ret
      exact ⟨by rw [HF.out]; rfl, HB2.out⟩
    | false =>
      rw [hs] at HS
      by_cases hg : M.gn < 65536
      · have HF := Lib.hid (show rvF M k l = true by simp [rvF, hp, hs, hg])
        clear hp hs
        go_enter Try.func18, Try.ntmps18
        go_wp2_with fail
        refine (HP.out _).mono ?_
        rintro e w1 ⟨rfl, hb⟩
        obtain ⟨hc1, hf1⟩ := bcell hb
        have HB1 := Lib.hid (HB.out.trans (hb.mono HB.out.size))
        have hz1 := hb.size
        try simp at hz1
        clear hb
        go_wp2_with fail
        refine (HS.out _).mono ?_
        rintro e w2 ⟨rfl, hb⟩
        obtain ⟨hc2, hf2⟩ := bcell hb
        have HB2 := Lib.hid (HB1.out.trans (hb.mono HB1.out.size))
        have hz2 := hb.size
        try simp at hz2
        clear hb
        have hlt : w.heap.size < w1.heap.size := by omega
        go_wp2
        go_ret
        exact ⟨by rw [HF.out]; rfl, HB2.out⟩
      · have HF := Lib.hid (show rvF M k l = false by simp [rvF, hp, hs]; omega)
        clear hp hs
        go_enter Try.func18, Try.ntmps18
        go_wp2_with fail
        refine (HP.out _).mono ?_
        rintro e w1 ⟨rfl, hb⟩
        obtain ⟨hc1, hf1⟩ := bcell hb
        have HB1 := Lib.hid (HB.out.trans (hb.mono HB.out.size))
        have hz1 := hb.size
        try simp at hz1
        clear hb
        go_wp2_with fail
        refine (HS.out _).mono ?_
        rintro e w2 ⟨rfl, hb⟩
        obtain ⟨hc2, hf2⟩ := bcell hb
        have HB2 := Lib.hid (HB1.out.trans (hb.mono HB1.out.size))
        have hz2 := hb.size
        try simp at hz2
        clear hb
        have hlt : w.heap.size < w1.heap.size := by omega
        go_wp2
        go_ret
        exact ⟨by rw [HF.out, ← decide_eq_false (show ¬ M.gn < 65536 by omega)]; rfl, HB2.out⟩
end Go.Proofs.Ytjiampelmiaflaa
