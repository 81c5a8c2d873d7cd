/- What is proved here: octets.GetText, by one contract for all arguments. -/
import Derived.Test.YtjiampelmiaflaaBas
import Derived.Test.YtjiampelmiaflaaLen
import Derived.Test.YtjiampelmiaflaaTxd
namespace Go.Proofs.Ytjiampelmiaflaa
open Go.RowKit
set_option linter.unusedVariables false

theorem gettext_bad (v : Value) (at_ m : Int) (w : World) (h : m < 0 ∨ 255 < m ∨ at_ < 0) :
    Calls Try.prog 51 #[v, .int .i64 at_, .int .i64 m] w fun e w' => e = .returned (.tuple #[.string ByteArray.empty, .int .i64 0, .int .i64 1]) ∧ w = w' := by
  by_cases hs : m < 0 ∨ 255 < m
  · have H := Lib.hid hs
    clear h hs
    go_enter Try.func51, Try.ntmps51
    go_wp2_with fail
    refine (islength_no _ _ H.out).mono ?_
    rintro e w1 ⟨rfl, rfl⟩
    go_wp2
    go_ret3
    exact ⟨rfl, rfl⟩
  · have h1 : 0 ≤ m := by omega
    have h2 : m ≤ 255 := by omega
    have h3 : at_ < 0 := by omega
    clear h hs
    go_enter Try.func51, Try.ntmps51
    go_wp2_with fail
    refine (islength_yes _ _ h1 h2).mono ?_
    rintro e w1 ⟨rfl, rfl⟩
    go_wp2
    go_ret3
    exact ⟨rfl, rfl⟩

theorem gettext_end (A : Option Addr) (l c : Nat) (at_ : Nat) (m : Int) (w : World) (h1 : 0 ≤ m) (h2 : m ≤ 255) (h0 : (0 : Int) ≤ at_) (h : l ≤ at_) :
    Calls Try.prog 51 #[.slice A l c, .int .i64 at_, .int .i64 m] w fun e w' => e = .returned (.tuple #[.string ByteArray.empty, .int .i64 0, .int .i64 8]) ∧ w = w' := by
  go_enter Try.func51, Try.ntmps51
  go_wp2_with fail
  refine (islength_yes _ _ h1 h2).mono ?_
  rintro e w1 ⟨rfl, rfl⟩
  go_wp2
  go_ret3
  exact ⟨rfl, rfl⟩

set_option maxHeartbeats 4000000 in
set_option maxRecDepth 20000 in
theorem gettext_in (A : Option Addr) (l c : Nat) (bs : List UInt8) (at_ : Nat) (m : Int) (w : World) (hv : Bs w w.heap.size (.slice A l c) bs) (hl : l ≤ 1099511627776) (h1 : 0 ≤ m) (h2 : m ≤ 255) (hat : at_ < l) :
    Calls Try.prog 51 #[.slice A l c, .int .i64 at_, .int .i64 m] w fun e w' => GxEnd at_ (bs.getD at_ 0).toNat m bs e ∧ w = w' := by
  obtain ⟨i0, hi0, hz0, hz1, hz2⟩ := info_parts info_u8
  obtain ⟨hn, hlc, hm⟩ := hv.len
  have hl' : (l : Int) ≤ 1099511627776 := by omega
  have h0 : (0 : Int) ≤ at_ := by omega
  have hat2 : (at_ : Int) ≤ 1099511627775 := by omega
  obtain ⟨b, o, rfl, _, hb, hcell⟩ := hv.at_ hat
  obtain ⟨g, hg⟩ : ∃ g, g = bs[at_].toNat := ⟨_, rfl⟩
  have hgd : (bs.getD at_ 0).toNat = g := by rw [hg]; simp [List.getD, hb]
  have hgl : g < 256 := by rw [hg]; exact bs[at_].toNat_lt
  rw [← hg] at hcell
  rw [hgd]
  have b1 : (g : Int) ≤ 255 := by omega
  have b2 : (0 : Int) ≤ (g : Int) := Int.natCast_nonneg _
  clear hg hgd
  by_cases hmg : m < (g : Int)
  · have HE : ∀ e, e = .returned (.tuple #[.string ByteArray.empty, .int .i64 0, .int .i64 2]) → GxEnd at_ g m bs e := fun e he => by unfold GxEnd; rw [if_pos hmg]; exact he
    have HE := Lib.hid HE
    clear hv hl hn hlc hm hb hgl
    go_enter Try.func51, Try.ntmps51
    go_wp2_with fail
    refine (islength_yes _ _ h1 h2).mono ?_
    rintro e w1 ⟨rfl, rfl⟩
    go_wp2
    go_ret3
    exact ⟨HE.out _ rfl, rfl⟩
  · by_cases hsh : (l : Int) < at_ + 1 + g
    · have HE : ∀ e, e = .returned (.tuple #[.string ByteArray.empty, .int .i64 0, .int .i64 8]) → GxEnd at_ g m bs e := fun e he => by unfold GxEnd; rw [if_neg hmg, if_pos (by omega)]; exact he
      have HE := Lib.hid HE
      have hsh2 : (l : Int) - (at_ + 1) < g := by omega
      clear hv hl hn hlc hm hb hgl hsh
      go_enter Try.func51, Try.ntmps51
      go_wp2_with fail
      refine (islength_yes _ _ h1 h2).mono ?_
      rintro e w1 ⟨rfl, rfl⟩
      go_wp2
      go_ret3
      exact ⟨HE.out _ rfl, rfl⟩
    · have HE : ∀ e, e = .returned (.tuple #[.string ⟨((bs.drop (at_ + 1)).take g).toArray⟩, .int .i64 (at_ + 1 + g), .int .i64 0]) → GxEnd at_ g m bs e := fun e he => by unfold GxEnd; rw [if_neg hmg, if_neg (by omega)]; exact he
      have HE := Lib.hid HE
      have hsh2 : ¬ ((l : Int) - (at_ + 1) < g) := by omega
      obtain ⟨p, hp⟩ : ∃ p : Nat, p = at_ + 1 := ⟨_, rfl⟩
      obtain ⟨q, hq⟩ : ∃ q : Nat, q = at_ + 1 + g := ⟨_, rfl⟩
      obtain ⟨A', hcut, hv'⟩ := run_window (P := Try.prog) 41 5 i0 Try.underlying41 hi0 hz1 hv .i64 .i64 p q (by omega) (by omega)
      have hqp : q - p = g := by omega
      rw [hqp] at hcut hv'
      obtain ⟨d, hd⟩ : ∃ d, d = c - p := ⟨_, rfl⟩
      rw [← hd] at hv' hcut
      have hpI : (at_ : Int) + 1 = (p : Int) := by omega
      have hqI : (p : Int) + (g : Int) = (q : Int) := by omega
      rw [hpI] at hsh2 HE
      rw [hqI, ← hp] at HE
      have hconv := run_convert_bs (P := Try.prog) w 41 5 9 Try.underlying41 Try.underlying5 Try.underlying9 hv'
      clear hv hl hn hlc hm hb hgl hsh hp hq hqp hd hv' hz0 hz1 hz2 hi0
      go_enter Try.func51, Try.ntmps51
      go_wp2_with fail
      refine (islength_yes _ _ h1 h2).mono ?_
      rintro e w1 ⟨rfl, rfl⟩
      go_wp2
      go_ret3
      exact ⟨HE.out _ rfl, rfl⟩

theorem gettext_all (A : Option Addr) (l c : Nat) (bs : List UInt8) (at_ m : Int) (w : World) (hv : Bs w w.heap.size (.slice A l c) bs) (hl : l ≤ 1099511627776) :
    Calls Try.prog 51 #[.slice A l c, .int .i64 at_, .int .i64 m] w fun e w' =>
      e = .returned (.tuple #[.string (gxS at_ m bs).1, .int .i64 (gxS at_ m bs).2.1, .int .i64 (gxS at_ m bs).2.2]) ∧ w = w' := by
  have hn := hv.len.1
  by_cases h : m < 0 ∨ 255 < m ∨ at_ < 0
  · refine (gettext_bad (.slice A l c) at_ m w h).mono fun e w' ⟨he, hw⟩ => ⟨?_, hw⟩
    rw [he]; unfold gxS; rw [if_pos h]
  · obtain ⟨a, rfl⟩ := Int.eq_ofNat_of_zero_le (show 0 ≤ at_ by omega)
    by_cases h2 : (bs.length : Int) ≤ a
    · refine (gettext_end A l c a m w (by omega) (by omega) (by omega) (by omega)).mono fun e w' ⟨he, hw⟩ => ⟨?_, hw⟩
      rw [he]; unfold gxS; rw [if_neg h, if_pos h2]
    · exact (gettext_in A l c bs a m w hv hl (by omega) (by omega) (by omega)).mono fun e w' ⟨he, hw⟩ => ⟨gx_end a m bs e (by omega) (by omega) (by omega) he, hw⟩
end Go.Proofs.Ytjiampelmiaflaa
