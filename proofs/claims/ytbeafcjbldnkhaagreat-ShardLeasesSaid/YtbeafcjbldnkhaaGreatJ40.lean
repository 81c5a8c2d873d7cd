/- What is proved here: what shardqueuelaw07.ShardLeases reads. -/
import Derived.Test.YtbeafcjbldnkhaaGreatJ32
import Derived.Test.YtbeafcjbldnkhaaGreatJ39
import Derived.Test.YtbeafcjbldnkhaaGreatJ31
namespace Go.Proofs.YtbeafcjbldnkhaaGreat
open Go.RowKit
set_option linter.unusedVariables false

theorem SAt.grownG {w W W' : World} {p g : Nat} {S : Sh} {D : Sx} (h : SAt w p S D W) (hg : W.grownBy W' (some g)) (ho : SOff S D g) (hne : p ≠ g) (hB : w.heap.size ≤ g) : SAt w p S D W' :=
  ⟨h.s8.grownG hg hne, ⟨(h.sr.ls.grownR (Nat.le_refl _) hg (fun q e => by injection e with e; subst e; exact ho.o1)).more hg.size, (h.sr.el.grownR (Nat.le_refl _) hg (fun q e => by injection e with e; subst e; exact ho.o2)).more hg.size, (h.sr.dl.grownR (Nat.le_refl _) hg (fun q e => by injection e with e; subst e; exact ho.o3)).more hg.size⟩, h.off,
   h.bel.grown hg h.bel.size (fun x e => by injection e with e; omega), h.old⟩
theorem take_cases {S : Sh} (hS : SrSh S) (D : Sx) {mx now vis ep lim : Int} (hB : tkB mx now vis ep lim = true) (hdl : now + vis ≤ 1073741824) :
    (∃ S' K, S.lv = true ∧ S'.sz4 ∧ K.length ≤ 12 ∧ (∀ j (h : j < K.length), LvOk S S' K[j] now vis ep lim) ∧ ∀ W, SR W W.heap.size S D → Calls Tryz.prog 20 #[sv S D, .int .i64 mx, .int .i64 now, .int .i64 vis, .int .i64 ep, .int .i64 lim] W (SLe W S' K 0)) ∨
    (S.lv = false ∧ ∀ W, SR W W.heap.size S D → Calls Tryz.prog 20 #[sv S D, .int .i64 mx, .int .i64 now, .int .i64 vis, .int .i64 ep, .int .i64 lim] W (SLe W zS [] 7)) := by
  rcases hS with ⟨V, k, rfl⟩ | ⟨k, k1, k2, rfl⟩
  · left
    have hB' := hB
    unfold tkB at hB'
    simp only [Bool.and_eq_true] at hB'
    have m := wi_of hB'.2.2.2.2
    have li := wi_of hB'.2.2.2.1
    have n := wi_of hB'.1
    have v := wi_of hB'.2.1
    clear hB'
    obtain ⟨m', hm⟩ := Int.eq_ofNat_of_zero_le (show 0 ≤ mx by omega)
    have hm : mx = (m' : Int) := hm
    subst hm
    obtain ⟨k3, -⟩ := take_facts (mx := m') (ep := ep) (dl := now + vis) k li.2 (by omega) hdl
    have hr := k3.room
    have hn := k3.n2
    have hc : (V.take m' (fun M => rvF M ep lim) (now + vis)).sh.cs.length = (V.take m' (fun M => rvF M ep lim) (now + vis)).n := fil_len _ _ _
    refine ⟨(V.take m' (fun M => rvF M ep lim) (now + vis)).sh, lzF (now + vis) (pk m' (fun M => rvF M ep lim) V.L).1, rfl, ⟨by rw [hc]; exact k3.n1, by omega, ?_, ?_⟩, ?_, fun j h => ?_, fun W h => stake_ok V k D m' now vis ep lim W h hB hdl⟩
    · have := k3.tb.len; show (V.take m' (fun M => rvF M ep lim) (now + vis)).l.length ≤ 1000; omega
    · have := k3.tb.hlen; have := k3.tb.len; show (V.take m' (fun M => rvF M ep lim) (now + vis)).h.length ≤ 1000; omega
    · unfold lzF
      rw [List.length_map]
      have h1 := (pk_sub m' (fun M => rvF M ep lim) V.L).2.1.length_le
      have := k.lenL
      have := k.n2
      omega
    · have hj : j < (pk m' (fun M => rvF M ep lim) V.L).1.length := by simpa [lzF] using h
      have e : (lzF (now + vis) (pk m' (fun M => rvF M ep lim) V.L).1)[j] = ⟨dlM (pk m' (fun M => rvF M ep lim) V.L).1[j], now + vis⟩ := by simp [lzF]
      rw [e]
      exact lv_ok k hB hdl (List.getElem_mem hj)
  · right
    have e : tkE (frS k) mx now vis ep lim = 7 := by
      unfold tkE
      rw [fr_ex k1 k2, if_pos (by decide)]
    refine ⟨rfl, fun W h => ?_⟩
    have g := stake_bad (frS k) D mx now vis ep lim W h (by rw [e]; decide)
    rw [e] at g
    exact g
/-- The numbers that were drawn lie in block d. -/
structure D5 (W : World) (d : Nat) (mx now vis ep lim : Int) : Prop where
  c0 : W.cell? ⟨d, 0, none⟩ = some (.int .i64 mx)
  c1 : W.cell? ⟨d, 1, none⟩ = some (.int .i64 now)
  c2 : W.cell? ⟨d, 2, none⟩ = some (.int .i64 vis)
  c3 : W.cell? ⟨d, 3, none⟩ = some (.int .i64 ep)
  c4 : W.cell? ⟨d, 4, none⟩ = some (.int .i64 lim)
  lt : d < W.heap.size
theorem D5.up {W W' : World} {d : Nat} {mx now vis ep lim : Int} (h : D5 W d mx now vis ep lim) (hb : Below W.heap.size W W') : D5 W' d mx now vis ep lim :=
  ⟨(hb.cell (p := ⟨d, 0, none⟩) h.lt).trans h.c0, (hb.cell (p := ⟨d, 1, none⟩) h.lt).trans h.c1, (hb.cell (p := ⟨d, 2, none⟩) h.lt).trans h.c2, (hb.cell (p := ⟨d, 3, none⟩) h.lt).trans h.c3, (hb.cell (p := ⟨d, 4, none⟩) h.lt).trans h.c4, Nat.lt_of_lt_of_le h.lt hb.size⟩
theorem D5.start (w : World) (mx now vis ep lim a b c : Int) (t : TypeId) : D5 (w.alloc (.cells #[.int .i64 mx, .int .i64 now, .int .i64 vis, .int .i64 ep, .int .i64 lim, .int .i64 a, .int .i64 b, .int .i64 c] t)) w.heap.size mx now vis ep lim :=
  ⟨by simp [go_sem], by simp [go_sem], by simp [go_sem], by simp [go_sem], by simp [go_sem], by simp⟩
/-- Block q holds a handle, and may be written. -/
def H4f (W : World) (q : Nat) (H : Hn) : Prop := H4 W q H ∧ ∀ o, W.frozen? ⟨q, o, none⟩ = false
theorem H4f.up {W W' : World} {q : Nat} {H : Hn} (h : H4f W q H) (hb : Below W.heap.size W W') : H4f W' q H := ⟨h.1.up hb, fun o => (hb.frozen (p := ⟨q, o, none⟩) h.1.2.2.2.2).trans (h.2 o)⟩
theorem h4_drew {W : World} {q : Nat} {H : Hn} (h : H4f W q H) : H4f W.drew q H := h.up (Below.refl _ _).drew
theorem h4_new (w : World) (t : TypeId) (i g r : Int) : H4f (w.alloc (.cells #[.int .i64 i, .int .i64 g, .int .i64 r, .int .i64 0] t)) w.heap.size ⟨i, g, r, 0⟩ :=
  ⟨H4.start w ⟨i, g, r, 0⟩ t, fun o => by simp [go_sem]⟩
theorem h4_two {W : World} {a z : Nat} {i g r x y : Int} (ha : H4 W a ⟨i, g, r, 0⟩) (hz : H4 W z ⟨i, g, r, 0⟩) (h1 : ¬ a = z) (h2 : ¬ z = a) : H4 ((W.setCell ⟨a, 1, none⟩ (.int .i64 x)).setCell ⟨z, 2, none⟩ (.int .i64 y)) a ⟨i, x, r, 0⟩ ∧ H4 ((W.setCell ⟨a, 1, none⟩ (.int .i64 x)).setCell ⟨z, 2, none⟩ (.int .i64 y)) z ⟨i, g, y, 0⟩ := by
  obtain ⟨a0, a1, a2, a3, al⟩ := ha
  obtain ⟨z0, z1, z2, z3, zl⟩ := hz
  simp only at a0 a1 a2 a3 z0 z1 z2 z3
  refine ⟨⟨?_, ?_, ?_, ?_, ?_⟩, ⟨?_, ?_, ?_, ?_, ?_⟩⟩ <;> simp [go_sem, a0, a1, a2, a3, al, z0, z1, z2, z3, zl]
/-- What the loop keeps: the shard, the draw, what Take made of the shard, the leases. -/
structure LwAt (w : World) (p d s : Nat) (S T : Sh) (D E : Sx) (mx now vis ep lim : Int) (A : Option Addr) (c : Nat) (K : List Le) (W : World) : Prop where
  sa : SAt w p S D W
  sb : SAt w s T E W
  d5 : D5 W d mx now vis ep lim
  el : El W W.heap.size (.slice A K.length c) K
theorem LwAt.below {w W W' : World} {p d s c : Nat} {S T : Sh} {D E : Sx} {mx now vis ep lim : Int} {A : Option Addr} {K : List Le} (h : LwAt w p d s S T D E mx now vis ep lim A c K W) (hb : Below W.heap.size W W') : LwAt w p d s S T D E mx now vis ep lim A c K W' :=
  ⟨h.sa.below hb, h.sb.below hb, h.d5.up hb, (h.el.below hb).more hb.size⟩
/-- What a round of the loop keeps: that, the handle, the older one, the newer one. -/
structure LuAt (w : World) (p d s q a z : Nat) (S T : Sh) (D E : Sx) (mx now vis ep lim i g r x y : Int) (A : Option Addr) (c : Nat) (K : List Le) (W : World) : Prop where
  lw : LwAt w p d s S T D E mx now vis ep lim A c K W
  hq : H4 W q ⟨i, g, r, 0⟩
  ha : H4 W a ⟨i, x, r, 0⟩
  hz : H4 W z ⟨i, g, y, 0⟩
theorem LuAt.below {w W W' : World} {p d s q a z c : Nat} {S T : Sh} {D E : Sx} {mx now vis ep lim i g r x y : Int} {A : Option Addr} {K : List Le} (h : LuAt w p d s q a z S T D E mx now vis ep lim i g r x y A c K W) (hb : Below W.heap.size W W') : LuAt w p d s q a z S T D E mx now vis ep lim i g r x y A c K W' :=
  ⟨h.lw.below hb, h.hq.up hb, h.ha.up hb, h.hz.up hb⟩
/-- What Holds says as a contract. -/
theorem holds_is {w W : World} {s : Nat} {T : Sh} {E : Sx} (h : SAt w s T E W) {i g r now ep : Int} {b : Bool} (e : hoF T ⟨i, g, r, 0⟩ now ep = b) :
    Calls Tryz.prog 26 #[sv T E, .agg #[.int .i64 i, .int .i64 g, .int .i64 r, .int .i64 0], .int .i64 now, .int .i64 ep] W fun e w' => e = .returned (.bool b) ∧ Below W.heap.size W w' := by
  have k := sholds_any T E ⟨i, g, r, 0⟩ now ep W h.sr
  rw [e] at k
  exact k
theorem ack_is {w W : World} {s : Nat} {T : Sh} {E : Sx} (h : SAt w s T E W) (hz : T.sz4) {i g r now ep : Int} (e : heS T ⟨i, g, r, 0⟩ now ep true = 0) :
    Calls Tryz.prog 24 #[sv T E, .agg #[.int .i64 i, .int .i64 g, .int .i64 r, .int .i64 0], .int .i64 now, .int .i64 ep] W (SE W (akF T i) 0) := by
  have k := sack_any T E ⟨i, g, r, 0⟩ now ep W h.sr (fun _ => hz)
  rw [e, if_pos rfl] at k
  exact k
theorem nack_is {w W : World} {s : Nat} {T : Sh} {E : Sx} (h : SAt w s T E W) {i g r now ep lim : Int} (e : heS T ⟨i, g, r, 0⟩ now ep (wi lim 1 8) = 0) :
    Calls Tryz.prog 21 #[sv T E, .agg #[.int .i64 i, .int .i64 g, .int .i64 r, .int .i64 0], .int .i64 now, .int .i64 ep, .int .i64 lim] W (SE W (gbN T i lim) 0) := by
  have k := snack_any T E ⟨i, g, r, 0⟩ now ep lim W h.sr
  rw [e, if_pos rfl] at k
  exact k
/-- What is kept once Ack and Nack were tried. -/
structure LzAt (w : World) (p d s q a z u v : Nat) (S T F1 F2 : Sh) (D E D3 D4 : Sx) (mx now vis ep lim i g r x y : Int) (A : Option Addr) (c : Nat) (K : List Le) (W : World) : Prop where
  lu : LuAt w p d s q a z S T D E mx now vis ep lim i g r x y A c K W
  s1 : SAt w u F1 D3 W
  s2 : SAt w v F2 D4 W
abbrev LzK (d s q u v : Nat) (T F1 F2 : Sh) (E D3 D4 : Sx) (now ep i g r : Int) (W : World) : Prop := K8 u F1 D3 W ∧ K8 v F2 D4 W ∧ K8 s T E W ∧ W.cell? ⟨q, 0, none⟩ = some (.int .i64 i) ∧ W.cell? ⟨q, 1, none⟩ = some (.int .i64 g) ∧ W.cell? ⟨q, 2, none⟩ = some (.int .i64 r) ∧ W.cell? ⟨q, 3, none⟩ = some (.int .i64 0) ∧ W.cell? ⟨d, 1, none⟩ = some (.int .i64 now) ∧ W.cell? ⟨d, 3, none⟩ = some (.int .i64 ep)
section
variable {w W W' : World} {p d s q a z u v c : Nat} {S T F1 F2 : Sh} {D E D3 D4 : Sx} {mx now vis ep lim i g r x y : Int} {A : Option Addr} {K : List Le}
theorem LzAt.below (h : LzAt w p d s q a z u v S T F1 F2 D E D3 D4 mx now vis ep lim i g r x y A c K W) (hb : Below W.heap.size W W') : LzAt w p d s q a z u v S T F1 F2 D E D3 D4 mx now vis ep lim i g r x y A c K W' := ⟨h.lu.below hb, h.s1.below hb, h.s2.below hb⟩
theorem LzAt.k (h : LzAt w p d s q a z u v S T F1 F2 D E D3 D4 mx now vis ep lim i g r x y A c K W) : LzK d s q u v T F1 F2 E D3 D4 now ep i g r W := ⟨h.s1.k8, h.s2.k8, h.lu.lw.sb.k8, h.lu.hq.1, h.lu.hq.2.1, h.lu.hq.2.2.1, h.lu.hq.2.2.2.1, h.lu.lw.d5.c1, h.lu.lw.d5.c3⟩
end
theorem st_is {w W : World} {s : Nat} {T : Sh} {E : Sx} (h : SAt w s T E W) {x : Int} (e : stF T = x) :
    Calls Tryz.prog 27 #[sv T E] W (VlT W x) := by
  have k := sstored_any T E W h.sr
  rw [e] at k
  exact k
end Go.Proofs.YtbeafcjbldnkhaaGreat
