/- What is proved here: slices.BinarySearchFunc of leases, lease.place by contracts; lease.Find by a contract; the reference's Purged of message, by one contract for all arguments. -/
import Derived.Test.YtdilgeabcacbdaaJ27
import Derived.Test.YtdilgeabcacbdaaJ17
import Derived.Deep.LoopGhost
import Derived.Test.YtdilgeabcacbdaaJ28
import Derived.Test.YtdilgeabcacbdaaJ19
import Derived.Test.YtdilgeabcacbdaaJ16
namespace Go.Proofs.Ytdilgeabcacbdaa
open Go.RowKit
set_option linter.unusedVariables false

/-- What a search has found out: all before lo are less, none from hi on is. -/
structure Bs2 (l : List Le) (x : Int) (lo hi : Nat) : Prop where
  lo_ : ∀ j (hj : j < l.length), j < lo → l[j].id < x
  hi_ : ∀ j (hj : j < l.length), hi ≤ j → x ≤ l[j].id
theorem Bs2.start (l : List Le) (x : Int) : Bs2 l x 0 l.length := ⟨fun j _ h => absurd h (Nat.not_lt_zero _), fun j hj h => absurd hj (by omega)⟩
theorem Bs2.up {l : List Le} {x : Int} {lo hi m : Nat} (h : Bs2 l x lo hi) (ha : Asc Le.id l) (hm : m < l.length) (hx : l[m].id < x) : Bs2 l x (m + 1) hi :=
  ⟨fun j hj h' => by
    by_cases e : j = m
    · subst e; exact hx
    · exact Int.lt_trans (ha.lt (i := j) (j := m) (by omega) hm) hx, h.hi_⟩
theorem Bs2.at_ {l : List Le} {x : Int} {i : Nat} (h : Bs2 l x i i) (hi : i ≤ l.length) : kAt Le.id l x = i :=
  kAt_hit hi (fun j hj => h.lo_ j _ hj) fun hk => h.hi_ i hk (Nat.le_refl _)
end Go.Proofs.Ytdilgeabcacbdaa
namespace Go.Proofs.Ytdilgeabcacbdaa
open Go.RowKit
set_option linter.unusedVariables false

end Go.Proofs.Ytdilgeabcacbdaa
namespace Go.Proofs.Ytdilgeabcacbdaa
open Go.RowKit
set_option linter.unusedVariables false

theorem rpurged_any (M : Msg) (k : Int) (w : World) : Calls Try.prog 77 #[M.v, .int .i64 k] w fun e w' => e = .returned (.bool (puF M k)) ∧ Below w.heap.size w w' := by
  have HB := Lib.hid ((Below.refl w.heap.size w).alloc (Nat.le_refl _) (.cells M.cs 92))
  by_cases h : M.ep < k
  · have HF := Lib.hid (show puF M k = true from decide_eq_true h)
    go_enter Try.func77, Try.ntmps77
    go_wp2
    go_ret
    exact ⟨by rw [HF.out]; rfl, HB.out⟩
  · have HF := Lib.hid (show puF M k = false from decide_eq_false h)
    go_enter Try.func77, Try.ntmps77
    go_wp2
    go_ret
    exact ⟨by rw [HF.out]; rfl, HB.out⟩
end Go.Proofs.Ytdilgeabcacbdaa
