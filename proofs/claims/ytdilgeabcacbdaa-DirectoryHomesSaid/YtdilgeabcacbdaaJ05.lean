/- What is proved here: slices.Clone of spans and of numbers by contracts: the copies are the call's own; (plain) 'copy' between rows whose elements take more than one cell; rows known whole; slices.Insert of one span by a contract. -/
import Derived.Test.YtdilgeabcacbdaaJ04
import Derived.Test.YtdilgeabcacbdaaJ01
import Derived.WalkSpells
import Derived.Lib.AppendZerosOnto
import Derived.Deep.RegionHeld3
import Derived.Laws.CopyRow
import Derived.Laws.CopyOwn
import Derived.Deep.RegionLaw
import Derived.Laws.Slices
import Derived.Lib.Overlaps
import Derived.Laws.Externs
namespace Go.Proofs.Ytdilgeabcacbdaa
open Go.RowKit
set_option linter.unusedVariables false

theorem info_sp : (Try.prog.info? 63).map (fun i => (i.zero, i.size, i.bytes)) = some (some (Sp.v zSp), 3, 24) := by kernel_rfl
/-- A copy, that the call owns. -/
def SPClP (w : World) (l : List Sp) (e : Ending) (w' : World) : Prop := ∃ v, e = .returned v ∧ w'.ownsRow w.heap.size 63 3 v l.length (scs l) ∧ Below w.heap.size w w'
theorem spclone_end {w w1 : World} {l : List Sp} {v1 : Value} {o : Obj} (hown : w1.ownsRow w.heap.size 63 3 v1 (0 + l.length) ([] ++ scs l)) (hg : (w.alloc o).grownBy w1 (Value.ownBlock (.slice (some ⟨w.heap.size, 0, none⟩) 0 0))) : SPClP w l (.returned v1) w1 := by
  rw [Nat.zero_add, List.nil_append] at hown
  exact ⟨v1, rfl, hown, (((Below.refl _ _).alloc (Nat.le_refl _) o)).grown hg (by simp) (fun k hk => by simp [Value.ownBlock] at hk; omega)⟩

set_option maxHeartbeats 2000000 in
theorem spclone_any (A : Option Addr) (n c : Nat) (l : List Sp) (w : World) (hv : Pl w w.heap.size (.slice A n c) l) (h2 : n ≤ 1000) :
    Calls Try.prog 55 #[.slice A n c] w (SPClP w l) := by
  obtain ⟨rfl, hm1, hm2⟩ := hv.len
  obtain ⟨i0, hi0, hz0⟩ := Option.map_eq_some_iff.1 info_sp
  simp only [Prod.mk.injEq] at hz0
  have HI := Lib.hid hi0
  have HZ := Lib.hid hz0
  have HV := Lib.hid hv
  have heq : ∀ W, (binOp .eql 44 (.slice A l.length c) (.slice none 0 0)).run Try.prog W = .ok (.bool A.isNone) W := fun W => Lib.run_eql_slice_nil W _ _ _ _ _ _ _ Try.underlying44
  have HRD := Lib.hid hv.rd
  clear hv hi0 hz0
  cases A with
  | none =>
    have hl : l = [] := by
      cases l with
      | nil => rfl
      | cons d l => obtain ⟨b, o, e, _⟩ := HRD.out.2 (by simp); cases e
    subst hl
    have HP := Lib.hid (show SPClP w [] (.returned (.slice none 0 0)) w from ⟨_, rfl, World.ownsRow_nil w _ _ _, Below.refl _ _⟩)
    simp only [List.length_nil, Option.isNone_none] at heq ⊢
    go_enter Try.func55, Try.ntmps55
    go_wp2
    go_ret
    exact HP.out
  | some a =>
    simp only [Option.isNone_some] at heq
    go_enter Try.func55, Try.ntmps55
    go_wp2_with (at_builtin; refine wpList_append_rd _ rfl (.tmp 5) (.tmp 6) 44 rfl w.heap.size 63 i0 _ 3 24 Try.underlying44 HI.out HZ.out.1 HZ.out.2.1 HZ.out.2.2 rfl (by omega) (.slice (some ⟨w.heap.size, 0, none⟩) 0 0) 0 [] rfl (World.ownsRow_made w #[] 0 (Nat.le_refl _) (Nat.zero_le _) rfl) w.heap.size (some a) l.length c (scs l) rfl (HV.out.alloc (Nat.le_refl _) _).rd (scs_one l) (by unfold maxLen; omega) (by omega) (by simp) ?_; intro v1 w1 hown1 hg1 hat1)
    have HP := Lib.hid (spclone_end hown1 hg1)
    clear hown1 hg1 hat1
    go_wp2
    go_ret
    exact HP.out

theorem info_ni : (Try.prog.info? 3).map (fun i => (i.zero, i.size, i.bytes)) = some (some (.int .i64 0), 1, 8) := by kernel_rfl
/-- A copy, that the call owns. -/
def NIClP (w : World) (l : List Int) (e : Ending) (w' : World) : Prop := ∃ v, e = .returned v ∧ w'.ownsRow w.heap.size 3 1 v l.length (ics l) ∧ Below w.heap.size w w'
theorem niclone_end {w w1 : World} {l : List Int} {v1 : Value} {o : Obj} (hown : w1.ownsRow w.heap.size 3 1 v1 (0 + l.length) ([] ++ ics l)) (hg : (w.alloc o).grownBy w1 (Value.ownBlock (.slice (some ⟨w.heap.size, 0, none⟩) 0 0))) : NIClP w l (.returned v1) w1 := by
  rw [Nat.zero_add, List.nil_append] at hown
  exact ⟨v1, rfl, hown, (((Below.refl _ _).alloc (Nat.le_refl _) o)).grown hg (by simp) (fun k hk => by simp [Value.ownBlock] at hk; omega)⟩

set_option maxHeartbeats 2000000 in
theorem niclone_any (A : Option Addr) (n c : Nat) (l : List Int) (w : World) (hv : Fl w w.heap.size (.slice A n c) l) (h2 : n ≤ 1000) :
    Calls Try.prog 56 #[.slice A n c] w (NIClP w l) := by
  obtain ⟨rfl, hm1, hm2⟩ := hv.len
  obtain ⟨i0, hi0, hz0⟩ := Option.map_eq_some_iff.1 info_ni
  simp only [Prod.mk.injEq] at hz0
  have HI := Lib.hid hi0
  have HZ := Lib.hid hz0
  have HV := Lib.hid hv
  have heq : ∀ W, (binOp .eql 45 (.slice A l.length c) (.slice none 0 0)).run Try.prog W = .ok (.bool A.isNone) W := fun W => Lib.run_eql_slice_nil W _ _ _ _ _ _ _ Try.underlying45
  have HRD := Lib.hid hv.rd
  clear hv hi0 hz0
  cases A with
  | none =>
    have hl : l = [] := by
      cases l with
      | nil => rfl
      | cons d l => obtain ⟨b, o, e, _⟩ := HRD.out.2 (by simp); cases e
    subst hl
    have HP := Lib.hid (show NIClP w [] (.returned (.slice none 0 0)) w from ⟨_, rfl, World.ownsRow_nil w _ _ _, Below.refl _ _⟩)
    simp only [List.length_nil, Option.isNone_none] at heq ⊢
    go_enter Try.func56, Try.ntmps56
    go_wp2
    go_ret
    exact HP.out
  | some a =>
    simp only [Option.isNone_some] at heq
    go_enter Try.func56, Try.ntmps56
    go_wp2_with (at_builtin; refine wpList_append_rd _ rfl (.tmp 5) (.tmp 6) 45 rfl w.heap.size 3 i0 _ 1 8 Try.underlying45 HI.out HZ.out.1 HZ.out.2.1 HZ.out.2.2 rfl (by omega) (.slice (some ⟨w.heap.size, 0, none⟩) 0 0) 0 [] rfl (World.ownsRow_made w #[] 0 (Nat.le_refl _) (Nat.zero_le _) rfl) w.heap.size (some a) l.length c (ics l) rfl (HV.out.alloc (Nat.le_refl _) _).rd (ics_one l) (by unfold maxLen; omega) (by omega) (by simp) ?_; intro v1 w1 hown1 hg1 hat1)
    have HP := Lib.hid (niclone_end hown1 hg1)
    clear hown1 hg1 hat1
    go_wp2
    go_ret
    exact HP.out

end Go.Proofs.Ytdilgeabcacbdaa
namespace Go.Proofs.Ytdilgeabcacbdaa
open Go.RowKit
set_option linter.unusedVariables false

section
variable {P : Program}
theorem run_copy_sized (w : World) (dT sT ty elem : TypeId) (size g o dLen dCap : Nat) (a : Addr) (sLen sCap : Nat) (cur : List Value) (t : TypeId) (cs : List Value)
    (hu : P.underlying dT = some (.slice elem)) (hs : (P.info? elem).map (·.size) = some size)
    (hg : w.heap[g]? = some (.cells cur.toArray t (0, 0))) (hn : cs.length = Nat.min sLen dLen * size)
    (hsrc : ∀ j v, cs[j]? = some v → w.cell? (a.add j) = some v) (hfit : o + cs.length ≤ cur.length) (h1 : ∀ v ∈ cs, v.oneCell' = true) :
    (Builtin.copy_ #[dT, sT] ty #[.slice (some ⟨g, o, none⟩) dLen dCap, .slice (some a) sLen sCap]).run P w =
      .ok (goInt (Nat.min sLen dLen)) (w.setRow g (splice cur o cs).toArray) := by
  have hl := run_loadCells_list (P := P) w a cs hsrc
  have hst := run_storeCells_at P g o t cs 0 cur.toArray w hg (by simpa using hfit) h1
  cases hq : P.info? elem with
  | none => simp [hq] at hs
  | some i =>
    have hi : i.size = size := by simpa [hq] using hs
    have e : w.setRow g (cur.take o ++ cs ++ cur.drop (o + cs.length)).toArray = w.setRow g (splice cur o cs).toArray := by
      unfold splice; rw [List.append_assoc]
    simp [Builtin.copy_, run_underlying hu, Builtin.lenOf, Builtin.firstCells, sizeOf, typeInfo, hq, hi, ← hn, hl, hst]
    rw [← e]
    simp
end

/-- A row of leases that is known whole: block g has the cells cur. -/
abbrev Rw (W : World) (g : Nat) (t : TypeId) (cur : List Value) : Prop := W.heap[g]? = some (.cells cur.toArray t (0, 0))
section
variable {W : World} {g base n cap size : Nat} {t e : TypeId} {cur xs : List Value} {v : Value}
theorem Rw.set (h : Rw W g t cur) (o : Nat) (cs : List Value) : Rw (W.setRow g (splice cur o cs).toArray) g t (splice cur o cs) := setRow_heap W g _ _ t _ h
theorem Rw.cell (h : Rw W g t cur) {j : Nat} {u : Value} (hj : cur[j]? = some u) : W.cell? ⟨g, j, none⟩ = some u := by
  simp [World.cell?, h, hj]
theorem Rw.of_own (h : W.ownsRow base e size v n xs) (h0 : 0 < n) : ∃ g cap cur, v = .slice (some ⟨g, 0, none⟩) n cap ∧ base ≤ g ∧ Rw W g e cur ∧ n ≤ cap ∧ cap ≤ maxLen ∧ cur.length = cap * size ∧ cur.take (n * size) = xs := by
  rcases h.2 with ⟨_, h⟩ | ⟨g, cap, cur, hv, hb, hh, hl, hm, hs, ht⟩
  · omega
  · exact ⟨g, cap, cur.toList, hv, hb, by simpa using hh, hl, hm, by simpa using hs, ht⟩
theorem Rw.own (h : Rw W g e cur) (hb : base ≤ g) (hl : n ≤ cap) (hm : cap ≤ maxLen) (hs : cur.length = cap * size) (ht : cur.take (n * size) = xs) : W.ownsRow base e size (.slice (some ⟨g, 0, none⟩) n cap) n xs := by
  refine ⟨?_, .inr ⟨g, cap, cur.toArray, rfl, hb, h, hl, hm, by simpa using hs, by simpa using ht⟩⟩
  rw [← ht, List.length_take, hs]
  exact Nat.min_eq_left (Nat.mul_le_mul_right _ hl)
theorem Rw.lt (h : Rw W g t cur) : g < W.heap.size := (Array.getElem?_eq_some_iff.1 h).1
theorem splice_len (cur : List Value) (o : Nat) (cs : List Value) (h : o + cs.length ≤ cur.length) : (splice cur o cs).length = cur.length := length_splice cur o cs h
/-- Shifting up, then laying in. -/
theorem splice_shift {A M B C : List Value} {cur : List Value} (h : cur = A ++ (B ++ C)) (hM : M.length ≤ C.length) :
    splice (splice cur (A.length + M.length) B) A.length M = A ++ (M ++ (B ++ C.drop M.length)) := by
  subst h
  have e1 : splice (A ++ (B ++ C)) (A.length + M.length) B = (A ++ (B ++ C)).take (A.length + M.length) ++ (B ++ C.drop M.length) := by
    unfold splice
    congr 2
    rw [show A.length + M.length + B.length = A.length + (B.length + M.length) by omega, List.drop_append, List.drop_eq_nil_of_le (by omega), List.nil_append, show A.length + (B.length + M.length) - A.length = B.length + M.length by omega, List.drop_append, List.drop_eq_nil_of_le (by omega), List.nil_append, show B.length + M.length - B.length = M.length by omega]
  have hT : ((A ++ (B ++ C)).take (A.length + M.length)).length = A.length + M.length := by
    rw [List.length_take]; simp; omega
  rw [e1]
  unfold splice
  rw [List.take_append, hT, show A.length - (A.length + M.length) = 0 by omega, List.take_zero, List.append_nil, List.take_take, Nat.min_eq_left (by omega), List.take_left, List.drop_append, hT, Nat.sub_self, List.drop_zero, List.drop_eq_nil_of_le (by omega), List.nil_append]
/-- Laying two parts behind what is there. -/
theorem splice_two {A M B : List Value} {cur : List Value} (hA : cur.take A.length = A) (hl : A.length + M.length + B.length ≤ cur.length) :
    (splice (splice cur A.length M) (A.length + M.length) B).take (A.length + M.length + B.length) = A ++ (M ++ B) := by
  have e1 : splice cur A.length M = A ++ (M ++ cur.drop (A.length + M.length)) := by unfold splice; rw [hA]
  have e2 : splice (A ++ (M ++ cur.drop (A.length + M.length))) (A.length + M.length) B = A ++ M ++ (B ++ cur.drop (A.length + M.length + B.length)) := by
    unfold splice
    rw [show A ++ (M ++ cur.drop (A.length + M.length)) = (A ++ M) ++ cur.drop (A.length + M.length) by simp, List.take_append_of_le_length (by simp), List.take_of_length_le (by simp), List.drop_append, List.drop_eq_nil_of_le (by simp), List.nil_append, List.length_append, List.drop_drop, show A.length + M.length + (A.length + M.length + B.length - (A.length + M.length)) = A.length + M.length + B.length by omega]
  rw [e1, e2, List.take_append, List.take_of_length_le (by simp)]
  rw [show A.length + M.length + B.length - (A ++ M).length = B.length by simp, List.take_append_of_le_length (Nat.le_refl _), List.take_of_length_le (Nat.le_refl _)]
  simp
theorem grown_setRow (w : World) (g : Nat) (cs : Array Value) : w.grownBy (w.setRow g cs) (some g) :=
  ⟨rfl, rfl, rfl, by simp [World.setRow], fun k _ hne => setRow_other w g k cs (fun e => hne (by rw [e]))⟩
theorem Rw.grown {W W' : World} {g : Nat} {t : TypeId} {cur : List Value} {row : Option Nat} (h : Rw W g t cur) (hg : W.grownBy W' row) (hne : some g ≠ row) : Rw W' g t cur := (hg.block g h.lt hne).trans h
theorem Rw.below {W W' : World} {B g : Nat} {t : TypeId} {cur : List Value} (h : Rw W g t cur) (hb : Below B W W') (hl : g < B) : Rw W' g t cur := (hb.block g hl).trans h
theorem Rw.shape {W : World} {g : Nat} {t : TypeId} {cur : List Value} (h : Rw W g t cur) : W.shape? g = some (t, cur.length) := by
  have h : W.heap[g]? = some (.cells cur.toArray t (0, 0)) := h
  simp [World.shape?, h]
theorem Rw.free {W : World} {g : Nat} {t : TypeId} {cur : List Value} (h : Rw W g t cur) (o : Nat) : W.frozen? ⟨g, o, none⟩ = false := by
  have h : W.heap[g]? = some (.cells cur.toArray t (0, 0)) := h
  simp [World.frozen?, h]
theorem Rw.fresh (w : World) (cs : Array Value) (t : TypeId) : Rw (w.alloc (.cells cs t)) w.heap.size t cs.toList := by
  show (w.heap.push (.cells cs t))[w.heap.size]? = some (.cells cs.toList.toArray t (0, 0))
  simp
section
variable {P : Program} {ops : Array Oper} {o : Oper} {a : Act} {w : World}
end
end
end Go.Proofs.Ytdilgeabcacbdaa
namespace Go.Proofs.Ytdilgeabcacbdaa
open Go.RowKit
set_option linter.unusedVariables false

section
variable {A : Option Addr} {n c : Nat}
theorem sel_under : Try.prog.underlying 44 = some (.slice (Try.prog.elem 44)) := by kernel_rfl
theorem sel_elem : Try.prog.elem 44 = 63 := by kernel_rfl
theorem srun_eupto (A : Option Addr) (n c : Nat) (kh : IntKind) (j : Nat) (hj : j ≤ c) : ∀ W, (Instr.slice 44 (.slice A n c) none (some (.int kh (j : Int))) none).run Try.prog W = .ok (.slice A j c) W := fun W => by
  rw [run_slice_h W _ _ _ _ sel_under kh _ (by omega) (by omega), sel_elem, Try.sizeOf63]
  cases A <;> simp [Result.andThen, sliced, Addr.add]
theorem srun_ecut (A : Option Addr) (n c : Nat) (kl : IntKind) (k : Nat) (hk : k ≤ n) : ∃ A', A' = (if c = k then A else A.map (·.add (k * 3))) ∧ ∀ W, (Instr.slice 44 (.slice A n c) (some (.int kl (k : Int))) none none).run Try.prog W = .ok (.slice A' (n - k) (c - k)) W := by
  refine ⟨_, rfl, fun W => ?_⟩
  rw [run_slice_l W _ _ _ _ sel_under kl _ (by omega) (by omega), sel_elem, Try.sizeOf63]
  simp [Result.andThen, sliced]
end
/-- Nothing is asked. -/
abbrev TruS (_ : World) : Prop := True
/-- A list with one span more, that the call owns from a block on. -/
def InS (base : Nat) (own : Option Nat) (l : List Sp) (i : Nat) (X : Sp) (w : World) (e : Ending) (w' : World) : Prop := ∃ A c, e = .returned (.slice A (l.length + 1) c) ∧ w'.ownsRow base 63 3 (.slice A (l.length + 1) c) (l.length + 1) (scs (l.take i ++ X :: l.drop i)) ∧ w.grownBy w' own ∧ ∀ k, (Value.slice A (l.length + 1) c).ownBlock = some k → own = some k ∨ w.heap.size ≤ k
theorem span_size : (Try.prog.info? 63).map (·.size) = some 3 := by kernel_rfl
theorem scs_one1x (X : Sp) : scs [X] = X.l := by simp [scs]
theorem scs_mid (l : List Sp) (i : Nat) (X : Sp) : scs (l.take i ++ X :: l.drop i) = scs (l.take i) ++ (X.l ++ scs (l.drop i)) := by rw [scs_app, scs_cons]
theorem scs_split (l : List Sp) (i : Nat) : scs l = scs (l.take i) ++ scs (l.drop i) := by rw [← scs_app, List.take_append_drop]
theorem scs_take_len {l : List Sp} {i : Nat} (hi : i ≤ l.length) : (scs (l.take i)).length = i * 3 := by rw [scs_len, List.length_take, Nat.min_eq_left hi]
theorem scs_drop_len (l : List Sp) (i : Nat) : (scs (l.drop i)).length = (l.length - i) * 3 := by rw [scs_len, List.length_drop]

set_option maxHeartbeats 4000000 in
set_option maxRecDepth 20000 in
/-- At the end. -/
theorem sinsert_end (base vb : Nat) (v : Value) (l : List Sp) (X : Sp) (w : World) (hl : l.length ≤ 100) (ho : w.ownsRow base 63 3 v l.length (scs l)) (hb : base ≤ w.heap.size) (hx : Rw w vb 63 X.l) (hne : v.ownBlock ≠ some vb) :
    Calls Try.prog 90 #[v, .int .i64 (l.length : Int), .slice (some ⟨vb, 0, none⟩) 1 1] w (InS base v.ownBlock l l.length X w) := by
  obtain ⟨A, c, rfl⟩ := own_form ho
  have hnc : l.length ≤ c := (Pl.of_own ho).len.2.1
  obtain ⟨i0, hi0, hz0⟩ := Option.map_eq_some_iff.1 info_sp
  simp only [Prod.mk.injEq] at hz0
  have HI := Lib.hid hi0
  have HZ := Lib.hid hz0
  have HO := Lib.hid ho
  have HB := Lib.hid hb
  have HRX := Lib.hid (show Rd w w.heap.size 3 (some ⟨vb, 0, none⟩) 1 X.l from ⟨rfl, fun _ => ⟨vb, 0, rfl, hx.lt, fun j u hu => by rw [Nat.zero_add]; exact hx.cell hu⟩⟩)
  have HE := Lib.hid (show scs (l.take l.length ++ X :: l.drop l.length) = scs l ++ X.l by rw [List.take_length, List.drop_length, scs_app, scs_one1x])
  obtain ⟨A', hA', hcut⟩ := srun_ecut A l.length c .i64 l.length (Nat.le_refl _)
  rw [Nat.sub_self] at hcut
  clear hA'
  have hLX : X.l.length = 3 := rfl
  clear ho hb hx hne hi0 hz0
  go_enter Try.func90, Try.ntmps90
  go_wp2_with (at_builtin; refine wpList_append_rd _ rfl (.tmp 23) (.tmp 24) 44 rfl base 63 i0 _ 3 24 Try.underlying44 HI.out HZ.out.1 HZ.out.2.1 HZ.out.2.2 rfl (by omega) (.slice A l.length c) l.length (scs l) rfl HO.out w.heap.size (some ⟨vb, 0, none⟩) 1 1 X.l rfl HRX.out X.l_one (by unfold maxLen; omega) (by omega) HB.out ?_; intro v1 w1 hown1 hg1 hat1)
  obtain ⟨A1, c1, rfl⟩ := own_form hown1
  have HF := Lib.hid (show InS base (Value.slice A l.length c).ownBlock l l.length X w (.returned (.slice A1 (l.length + 1) c1)) w1 from ⟨A1, c1, rfl, by rw [HE.out]; exact hown1, hg1, fun k hk => by
    rcases hat1 with h | h
    · exact .inl (by rw [← h]; exact hk)
    · rw [h] at hk; injection hk with hk; exact .inr (by omega)⟩)
  clear hown1 hg1 hat1
  go_wp2
  go_ret
  exact HF.out

set_option maxHeartbeats 4000000 in
set_option maxRecDepth 20000 in
/-- In a new row. -/
theorem sinsert_grow (base vb : Nat) (l : List Sp) (i : Nat) (X : Sp) (w : World) (hi : i < l.length) (hl : l.length ≤ 100) (g cap : Nat) (cur : List Value) (hbg : base ≤ g) (hg : Rw w g 63 cur) (hlc : l.length ≤ cap) (hm : cap ≤ maxLen) (hcs : cur.length = cap * 3) (hct : cur.take (l.length * 3) = scs l) (hb : base ≤ w.heap.size) (hx : Rw w vb 63 X.l) (hne : g ≠ vb) (hroom : cap < l.length + 1) :
    Calls Try.prog 90 #[.slice (some ⟨g, 0, none⟩) l.length cap, .int .i64 (i : Int), .slice (some ⟨vb, 0, none⟩) 1 1] w (InS base (some g) l i X w) := by
  obtain ⟨i0, hi0, hz0⟩ := Option.map_eq_some_iff.1 info_sp
  simp only [Prod.mk.injEq] at hz0
  obtain ⟨hz1, hz2, hz3⟩ := hz0
  have hread : ∀ j u, (scs l)[j]? = some u → w.cell? ⟨g, j, none⟩ = some u := fun j u hu => hg.cell (by
    rw [← hct, List.getElem?_take] at hu
    split at hu
    · exact hu
    · cases hu)
  have hold : (Builtin.firstCells i0.size i (.slice (some ⟨g, 0, none⟩) i cap)).run Try.prog w.drew = .ok (scs (l.take i)).toArray w.drew := by
    rw [hz2]
    exact run_firstCells_some w.drew 3 i ⟨g, 0, none⟩ i cap (scs (l.take i)) (by rw [scs_take_len (by omega)]) (fun j u hu => by
      rw [add_mk, Nat.zero_add]
      refine hread j u ?_
      rw [scs_split l i, List.getElem?_append_left (List.getElem?_eq_some_iff.1 hu).1]
      exact hu)
  have hsub : IntKind.i64.wrap ((l.length : Int) + 1 - (i : Int)) = (l.length : Int) + 1 - (i : Int) := IntWalk.i64_in _ (by omega)
  have hrz : ∀ ty, (Builtin.append_ #[44, 3] ty #[.slice (some ⟨g, 0, none⟩) i cap, .int .i64 ((l.length : Int) + 1 - (i : Int))]).run Try.prog w =
      .ok (.slice (some ⟨w.heap.size, 0, none⟩) (l.length + 1) (grownCap w (l.length + 1) cap 63)) (w.drew.alloc (.cells ((scs (l.take i)).toArray ++ Builtin.zeroCells (Sp.v zSp).cells (l.length + 1 - i) ++ Builtin.zeroCells (Sp.v zSp).cells (grownCap w (l.length + 1) cap 63 - (l.length + 1))) 63)) := fun ty => by
    have h := Lib.run_append_grow_zeros (P := Try.prog) w 44 3 ty 63 i0 (Sp.v zSp) .i64 .i64 Try.underlying44 Try.underlying3 hi0 hz1 (some ⟨g, 0, none⟩) i cap (scs (l.take i)) hold (l.length + 1 - i) (by omega) (by omega) (by omega) (by omega) (by rw [hz3]; omega) (by rw [hz3, show i + (l.length + 1 - i) = l.length + 1 by omega]; exact growslice_fits hroom (by omega))
    rw [show i + (l.length + 1 - i) = l.length + 1 by omega, show ((l.length + 1 - i : Nat) : Int) = (l.length : Int) + 1 - (i : Int) by omega] at h
    exact h
  have hGn : l.length + 1 ≤ grownCap w (l.length + 1) cap 63 := grownCap_ge w _ _ _
  have hGm : grownCap w (l.length + 1) cap 63 ≤ maxLen := grownCap_le_maxLen w (l.length + 1) cap 63 (by unfold maxLen; omega)
  obtain ⟨G, hG⟩ : ∃ G, G = grownCap w (l.length + 1) cap 63 := ⟨_, rfl⟩
  rw [← hG] at hrz hGn hGm
  obtain ⟨ROW, hROW⟩ : ∃ ROW : List Value, ROW = ((scs (l.take i)).toArray ++ Builtin.zeroCells (Sp.v zSp).cells (l.length + 1 - i) ++ Builtin.zeroCells (Sp.v zSp).cells (G - (l.length + 1))).toList := ⟨_, rfl⟩
  have hRL : ROW.length = G * 3 := by
    have e8 : (Sp.v zSp).cells.size = 3 := rfl
    rw [hROW]
    simp [Builtin.zeroCells, scs_len]
    rw [e8] at *
    omega
  have hRT : ROW.take (i * 3) = scs (l.take i) := by
    rw [hROW]
    simp only [Array.toList_append, List.append_assoc]
    rw [List.take_append_of_le_length (Nat.le_of_eq (scs_take_len (by omega)).symm), List.take_of_length_le (Nat.le_of_eq (scs_take_len (by omega)))]
  obtain ⟨W1, hW1⟩ : ∃ W1, W1 = w.drew.alloc (.cells ROW.toArray 63) := ⟨_, rfl⟩
  rw [show (scs (l.take i)).toArray ++ Builtin.zeroCells (Sp.v zSp).cells (l.length + 1 - i) ++ Builtin.zeroCells (Sp.v zSp).cells (G - (l.length + 1)) = ROW.toArray by rw [hROW], ← hW1] at hrz
  have HR1 := Lib.hid (show Rw W1 w.heap.size 63 ROW by rw [hW1]; simpa using Rw.fresh w.drew ROW.toArray 63)
  have HB1 := Lib.hid (show Below w.heap.size w W1 by rw [hW1]; exact (Below.refl _ _).drew.alloc (Nat.le_refl _) _)
  obtain ⟨N, hN⟩ : ∃ N, N = w.heap.size := ⟨_, rfl⟩
  rw [← hN] at HR1 HB1 hrz
  have HNN := Lib.hid hN
  have HN := Lib.hid (show base ≤ N ∧ g < N ∧ vb < N by have := hg.lt; have := hx.lt; omega)
  have hk := srun_eupto (some ⟨g, 0, none⟩) l.length cap .i64 i (by omega)
  have hc1 : ∀ W, (Instr.slice 44 (.slice (some ⟨g, 0, none⟩) l.length cap) (some (.int .i64 (i : Int))) none none).run Try.prog W = .ok (.slice (some ⟨g, i * 3, none⟩) (l.length - i) (cap - i)) W := fun W => by
    obtain ⟨A', hA', h⟩ := srun_ecut (some ⟨g, 0, none⟩) l.length cap .i64 i (by omega)
    rw [hA', if_neg (by omega), Option.map_some, add_mk, Nat.zero_add] at h
    exact h W
  have hc2 : ∀ W, (Instr.slice 44 (.slice (some ⟨N, 0, none⟩) (l.length + 1) G) (some (.int .i64 (i : Int))) none none).run Try.prog W = .ok (.slice (some ⟨N, i * 3, none⟩) (l.length + 1 - i) (G - i)) W := fun W => by
    obtain ⟨A', hA', h⟩ := srun_ecut (some ⟨N, 0, none⟩) (l.length + 1) G .i64 i (by omega)
    rw [hA', if_neg (by omega), Option.map_some, add_mk, Nat.zero_add] at h
    exact h W
  have hc3 : ∀ W, (Instr.slice 44 (.slice (some ⟨N, 0, none⟩) (l.length + 1) G) (some (.int .i64 ((i : Int) + 1))) none none).run Try.prog W = .ok (.slice (some ⟨N, (i + 1) * 3, none⟩) (l.length + 1 - (i + 1)) (G - (i + 1))) W := fun W => by
    obtain ⟨A', hA', h⟩ := srun_ecut (some ⟨N, 0, none⟩) (l.length + 1) G .i64 (i + 1) (by omega)
    rw [hA', if_neg (by omega), Option.map_some, add_mk, Nat.zero_add, show ((i + 1 : Nat) : Int) = (i : Int) + 1 by omega] at h
    exact h W
  have hgr : (cap : Int) < (l.length : Int) + 1 := by omega
  have hne1 : ((i : Int) == (l.length : Int)) = false := by simp; omega
  have hw1 : IntKind.i64.wrap ((l.length : Int) + 1) = (l.length : Int) + 1 := IntWalk.i64_in _ (by omega)
  have hw2 : IntKind.i64.wrap ((i : Int) + 1) = (i : Int) + 1 := IntWalk.i64_in _ (by omega)
  have HX := Lib.hid hx
  have HG := Lib.hid (fun j u (hu : (scs (l.drop i))[j]? = some u) => show w.cell? ⟨g, i * 3 + j, none⟩ = some u from hread _ u (by rw [scs_split l i, List.getElem?_append_right (by rw [scs_take_len (by omega)]; omega), scs_take_len (by omega), Nat.add_sub_cancel_left]; exact hu))
  have HLN := Lib.hid (show (scs (l.take i)).length = i * 3 ∧ (scs (l.drop i)).length = (l.length - i) * 3 ∧ X.l.length = 3 from ⟨scs_take_len (by omega), scs_drop_len l i, rfl⟩)
  have HRR := Lib.hid (And.intro hRL (And.intro hRT (And.intro hGn hGm)))
  have hiL : (i : Int) < (l.length : Int) := by omega
  have hil : i < l.length := hi
  have em1 : Nat.min 1 (l.length + 1 - i) = 1 := Nat.min_eq_left (by omega)
  have em2 : Nat.min (l.length - i) (l.length + 1 - (i + 1)) = l.length - i := by rw [show l.length + 1 - (i + 1) = l.length - i by omega]; exact Nat.min_self _
  have hcp1 : ∀ ty, (Builtin.copy_ #[44, 44] ty #[.slice (some ⟨N, i * 3, none⟩) (l.length + 1 - i) (G - i), .slice (some ⟨vb, 0, none⟩) 1 1]).run Try.prog W1 = .ok (goInt (Nat.min 1 (l.length + 1 - i))) (W1.setRow N (splice ROW (i * 3) X.l).toArray) := fun ty =>
    run_copy_sized W1 44 44 ty 63 3 N (i * 3) (l.length + 1 - i) (G - i) ⟨vb, 0, none⟩ 1 1 ROW 63 X.l Try.underlying44 span_size HR1.out (by rw [HLN.out.2.2, em1]) (fun j u hu => by rw [add_mk, Nat.zero_add]; exact (HB1.out.cell (p := ⟨vb, j, none⟩) HN.out.2.2).trans (HX.out.cell hu)) (by rw [HRR.out.1, HLN.out.2.2]; omega) X.l_one
  have HR2 := Lib.hid (Rw.set HR1.out (i * 3) X.l)
  have HG2 := Lib.hid (grown_setRow W1 N (splice ROW (i * 3) X.l).toArray)
  rw [em1] at hcp1
  generalize W1.setRow N (splice ROW (i * 3) X.l).toArray = W2 at *
  have HSP := Lib.hid (splice_len ROW (i * 3) X.l (by rw [HRR.out.1, HLN.out.2.2]; omega))
  have hcp2 : ∀ ty, (Builtin.copy_ #[44, 44] ty #[.slice (some ⟨N, (i + 1) * 3, none⟩) (l.length + 1 - (i + 1)) (G - (i + 1)), .slice (some ⟨g, i * 3, none⟩) (l.length - i) (cap - i)]).run Try.prog W2.drew = .ok (goInt (Nat.min (l.length - i) (l.length + 1 - (i + 1)))) (W2.drew.setRow N (splice (splice ROW (i * 3) X.l) ((i + 1) * 3) (scs (l.drop i))).toArray) := fun ty =>
    run_copy_sized W2.drew 44 44 ty 63 3 N ((i + 1) * 3) (l.length + 1 - (i + 1)) (G - (i + 1)) ⟨g, i * 3, none⟩ (l.length - i) (cap - i) (splice ROW (i * 3) X.l) 63 (scs (l.drop i)) Try.underlying44 span_size HR2.out (by rw [HLN.out.2.1, em2]) (fun j u hu => by rw [add_mk]; exact ((HG2.out.cell_far ⟨g, i * 3 + j, none⟩ (by have := HB1.out.size; have := HN.out; show g < _; omega) (by have := HN.out; intro e; injection e with e; simp at e; omega)).trans (HB1.out.cell (p := ⟨g, i * 3 + j, none⟩) HN.out.2.1)).trans (HG.out j u hu)) (by rw [HSP.out, HRR.out.1, HLN.out.2.1]; omega) (scs_one _)
  have HR3 := Lib.hid (Rw.set (show Rw W2.drew N 63 _ from HR2.out) ((i + 1) * 3) (scs (l.drop i)))
  have HG3 := Lib.hid (grown_setRow W2.drew N (splice (splice ROW (i * 3) X.l) ((i + 1) * 3) (scs (l.drop i))).toArray)
  generalize W2.drew.setRow N (splice (splice ROW (i * 3) X.l) ((i + 1) * 3) (scs (l.drop i))).toArray = W3 at *
  rw [em2, show l.length + 1 - (i + 1) = l.length - i by omega] at hcp2
  rw [show l.length + 1 - (i + 1) = l.length - i by omega] at hc3
  clear em1 em2
  have HF := Lib.hid (show InS base (some g) l i X w (.returned (.slice (some ⟨N, 0, none⟩) (l.length + 1) G)) W3 from by
    refine ⟨_, _, rfl, Rw.own HR3.out HN.out.1 HRR.out.2.2.1 HRR.out.2.2.2 ?_ ?_, ?_⟩
    · rw [splice_len _ _ _ (by rw [HSP.out, HRR.out.1, HLN.out.2.1]; omega), HSP.out, HRR.out.1]
    · rw [scs_mid]
      have := splice_two (A := scs (l.take i)) (M := X.l) (B := scs (l.drop i)) (cur := ROW) (by rw [HLN.out.1]; exact HRR.out.2.1) (by rw [HLN.out.1, HLN.out.2.1, HLN.out.2.2, HRR.out.1]; omega)
      rw [HLN.out.1, HLN.out.2.1, HLN.out.2.2, show i * 3 + 3 = (i + 1) * 3 by omega, show (i + 1) * 3 + (l.length - i) * 3 = (l.length + 1) * 3 by omega] at this
      exact this
    · have hb3 : Below N w W3 := ((HB1.out.grown HG2.out (by have := HB1.out.size; have := HN.out; omega) (fun k e => by injection e with e; subst e; exact Nat.le_refl _)).drew).grown HG3.out (by have := HB1.out.size; have := HG2.out.size; have := HN.out; show N ≤ W2.heap.size; omega) (fun k e => by injection e with e; subst e; exact Nat.le_refl _)
      refine ⟨only_below (World.grownBy.refl w (some g)) (by rw [HNN.out] at hb3; exact hb3), fun k hk => ?_⟩
      injection hk with hk
      exact .inr (by have := HNN.out; simp at hk; omega))
  clear hg hx hct hcs hm hi0 hz1 hz2 hz3 hread hold hG hROW hW1 hRL hRT hi hN
  go_enter Try.func90, Try.ntmps90
  go_wp2_with (at_builtin; refine Lib.wpList_append_run _ rfl _ _ _ _ rfl _ _ rfl rfl _ _ (hrz _) ?_)
  go_region_held3 (fun W => TruS W) (exact trivial) (first | (fail))
  go_wp2
  go_ret
  exact HF.out

set_option maxHeartbeats 4000000 in
set_option maxRecDepth 20000 in
/-- In place. -/
theorem sinsert_shift (base vb : Nat) (l : List Sp) (i : Nat) (X : Sp) (w : World) (hi : i < l.length) (hl : l.length ≤ 100) (g cap : Nat) (cur : List Value) (hbg : base ≤ g) (hg : Rw w g 63 cur) (hm : cap ≤ maxLen) (hcs : cur.length = cap * 3) (hct : cur.take (l.length * 3) = scs l) (hb : base ≤ w.heap.size) (hx : Rw w vb 63 X.l) (hne : g ≠ vb) (hroom : l.length + 1 ≤ cap) :
    Calls Try.prog 90 #[.slice (some ⟨g, 0, none⟩) l.length cap, .int .i64 (i : Int), .slice (some ⟨vb, 0, none⟩) 1 1] w (InS base (some g) l i X w) := by
  have hcap : cap ≤ 9223372036854775807 := by unfold maxLen at hm; omega
  have hread : ∀ j u, (scs l)[j]? = some u → w.cell? ⟨g, j, none⟩ = some u := fun j u hu => hg.cell (by
    rw [← hct, List.getElem?_take] at hu
    split at hu
    · exact hu
    · cases hu)
  have HLN := Lib.hid (show (scs (l.take i)).length = i * 3 ∧ (scs (l.drop i)).length = (l.length - i) * 3 ∧ X.l.length = 3 from ⟨scs_take_len (by omega), scs_drop_len l i, rfl⟩)
  have hG : ∀ j u, (scs (l.drop i))[j]? = some u → w.cell? ⟨g, i * 3 + j, none⟩ = some u := fun j u hu => hread _ u (by rw [scs_split l i, List.getElem?_append_right (by rw [scs_take_len (by omega)]; omega), scs_take_len (by omega), Nat.add_sub_cancel_left]; exact hu)
  have em1 : Nat.min (l.length + 1 - i) (l.length - i) = l.length - i := Nat.min_eq_right (by omega)
  have em2 : Nat.min 1 (l.length + 1 - i) = 1 := Nat.min_eq_left (by omega)
  have hcp1 : ∀ ty, (Builtin.copy_ #[44, 44] ty #[.slice (some ⟨g, (i + 1) * 3, none⟩) (l.length - i) (cap - (i + 1)), .slice (some ⟨g, i * 3, none⟩) (l.length + 1 - i) (cap - i)]).run Try.prog w.drew = .ok (goInt (Nat.min (l.length + 1 - i) (l.length - i))) (w.drew.setRow g (splice cur ((i + 1) * 3) (scs (l.drop i))).toArray) := fun ty =>
    run_copy_sized w.drew 44 44 ty 63 3 g ((i + 1) * 3) (l.length - i) (cap - (i + 1)) ⟨g, i * 3, none⟩ (l.length + 1 - i) (cap - i) cur 63 (scs (l.drop i)) Try.underlying44 span_size hg (by rw [HLN.out.2.1, em1]) (fun j u hu => by rw [add_mk]; exact hG j u hu) (by rw [hcs, HLN.out.2.1]; omega) (scs_one _)
  rw [em1] at hcp1
  have HR1 := Lib.hid (Rw.set (show Rw w.drew g 63 cur from hg) ((i + 1) * 3) (scs (l.drop i)))
  have HG1 := Lib.hid (grown_setRow w.drew g (splice cur ((i + 1) * 3) (scs (l.drop i))).toArray)
  generalize w.drew.setRow g (splice cur ((i + 1) * 3) (scs (l.drop i))).toArray = W1 at *
  have HSP := Lib.hid (splice_len cur ((i + 1) * 3) (scs (l.drop i)) (by rw [hcs, HLN.out.2.1]; omega))
  have HX1 := Lib.hid (show Rw W1 vb 63 X.l from Rw.grown (show Rw w.drew vb 63 X.l from hx) HG1.out (fun e => hne (by injection e with e; exact e.symm)))
  have hcp2 : ∀ ty, (Builtin.copy_ #[44, 44] ty #[.slice (some ⟨g, i * 3, none⟩) (l.length + 1 - i) (cap - i), .slice (some ⟨vb, 0, none⟩) 1 1]).run Try.prog W1 = .ok (goInt (Nat.min 1 (l.length + 1 - i))) (W1.setRow g (splice (splice cur ((i + 1) * 3) (scs (l.drop i))) (i * 3) X.l).toArray) := fun ty =>
    run_copy_sized W1 44 44 ty 63 3 g (i * 3) (l.length + 1 - i) (cap - i) ⟨vb, 0, none⟩ 1 1 _ 63 X.l Try.underlying44 span_size HR1.out (by rw [HLN.out.2.2, em2]) (fun j u hu => by rw [add_mk, Nat.zero_add]; exact HX1.out.cell hu) (by rw [HSP.out, hcs, HLN.out.2.2]; omega) X.l_one
  rw [em2] at hcp2
  have HR2 := Lib.hid (Rw.set HR1.out (i * 3) X.l)
  have HG2 := Lib.hid (grown_setRow W1 g (splice (splice cur ((i + 1) * 3) (scs (l.drop i))) (i * 3) X.l).toArray)
  generalize W1.setRow g (splice (splice cur ((i + 1) * 3) (scs (l.drop i))) (i * 3) X.l).toArray = W2 at *
  clear em1 em2
  have hsz8 : ∀ W, (sizeOf 63).run Try.prog W = .ok 3 W := fun W => by rw [Try.sizeOf63]
  have hov : ∀ lb cb, (callFunc 105 #[.slice (some ⟨vb, 0, none⟩) 1 1, .slice (some ⟨g, (i + 1) * 3, none⟩) lb cb]).run Try.prog w = .ok (.value (.bool false)) w := fun lb cb => by
    rw [run_callFunc_extern Try.func105 (by kernel_rfl) (by kernel_rfl) (by kernel_rfl) (e := Extern.SlicesOverlaps.overlaps #[44, 44] #[4]) (by kernel_rfl),
      Lib.run_overlaps_apart w 44 4 63 Try.underlying44 3 hsz8 ⟨vb, 0, none⟩ ⟨g, (i + 1) * 3, none⟩ 1 1 lb cb (fun e => hne e.symm) 63 63 3 cur.length hx.shape hg.shape (by rw [hcs]; omega) (hx.free _) (hx.free _)]
    rfl
  have HF := Lib.hid (show InS base (some g) l i X w (.returned (.slice (some ⟨g, 0, none⟩) (l.length + 1) cap)) W2 from by
    have hcur : cur = scs (l.take i) ++ (scs (l.drop i) ++ cur.drop (l.length * 3)) := by
      rw [← List.append_assoc, ← scs_split, ← hct, List.take_append_drop]
    refine ⟨_, _, rfl, Rw.own HR2.out hbg hroom hm ?_ ?_, ?_⟩
    · rw [splice_len _ _ _ (by rw [HSP.out, hcs, HLN.out.2.2]; omega), HSP.out, hcs]
    · rw [scs_mid]
      have hlen : (cur.drop (l.length * 3)).length = (cap - l.length) * 3 := by rw [List.length_drop, hcs]; omega
      have := splice_shift (M := X.l) hcur (by rw [hlen, HLN.out.2.2]; omega)
      rw [HLN.out.1, HLN.out.2.2, show i * 3 + 3 = (i + 1) * 3 by omega] at this
      rw [this, ← List.append_assoc, ← List.append_assoc, List.take_append_of_le_length (by simp [HLN.out.1, HLN.out.2.1, HLN.out.2.2]; omega), List.take_of_length_le (by simp [HLN.out.1, HLN.out.2.1, HLN.out.2.2]; omega), List.append_assoc]
    · refine ⟨((show w.grownBy w.drew (some g) from ⟨rfl, rfl, rfl, Nat.le_refl _, fun _ _ _ => rfl⟩).trans HG1.out).trans HG2.out, fun k hk => .inl ?_⟩
      exact hk)
  have hk := srun_eupto (some ⟨g, 0, none⟩) l.length cap .i64 (l.length + 1) (by omega)
  have hc1 : ∀ W, (Instr.slice 44 (.slice (some ⟨g, 0, none⟩) l.length cap) (some (.int .i64 (i : Int))) none none).run Try.prog W = .ok (.slice (some ⟨g, i * 3, none⟩) (l.length - i) (cap - i)) W := fun W => by
    obtain ⟨A', hA', h⟩ := srun_ecut (some ⟨g, 0, none⟩) l.length cap .i64 i (by omega)
    rw [hA', if_neg (by omega), Option.map_some, add_mk, Nat.zero_add] at h
    exact h W
  have hk2 : ∀ W, (Instr.slice 44 (.slice (some ⟨g, 0, none⟩) l.length cap) none (some (.int .i64 ((l.length : Int) + 1))) none).run Try.prog W = .ok (.slice (some ⟨g, 0, none⟩) (l.length + 1) cap) W := fun W => by
    have h := hk W
    rwa [show ((l.length + 1 : Nat) : Int) = (l.length : Int) + 1 by omega] at h
  have hc2 : ∀ W, (Instr.slice 44 (.slice (some ⟨g, 0, none⟩) (l.length + 1) cap) (some (.int .i64 (i : Int))) none none).run Try.prog W = .ok (.slice (some ⟨g, i * 3, none⟩) (l.length + 1 - i) (cap - i)) W := fun W => by
    obtain ⟨A', hA', h⟩ := srun_ecut (some ⟨g, 0, none⟩) (l.length + 1) cap .i64 i (by omega)
    rw [hA', if_neg (by omega), Option.map_some, add_mk, Nat.zero_add] at h
    exact h W
  have hc3 : ∀ W, (Instr.slice 44 (.slice (some ⟨g, 0, none⟩) (l.length + 1) cap) (some (.int .i64 ((i : Int) + 1))) none none).run Try.prog W = .ok (.slice (some ⟨g, (i + 1) * 3, none⟩) (l.length - i) (cap - (i + 1))) W := fun W => by
    obtain ⟨A', hA', h⟩ := srun_ecut (some ⟨g, 0, none⟩) (l.length + 1) cap .i64 (i + 1) (by omega)
    rw [hA', if_neg (by omega), Option.map_some, add_mk, Nat.zero_add, show ((i + 1 : Nat) : Int) = (i : Int) + 1 by omega, show l.length + 1 - (i + 1) = l.length - i by omega] at h
    exact h W
  have hgr : ¬ (cap : Int) < (l.length : Int) + 1 := by omega
  have hne1 : ((i : Int) == (l.length : Int)) = false := by simp; omega
  have hw1 : IntKind.i64.wrap ((l.length : Int) + 1) = (l.length : Int) + 1 := IntWalk.i64_in _ (by omega)
  have hw2 : IntKind.i64.wrap ((i : Int) + 1) = (i : Int) + 1 := IntWalk.i64_in _ (by omega)
  have hiL : (i : Int) < (l.length : Int) := by omega
  have hil : i < l.length := hi
  clear hg hx hct hcs hm hread hG hk hi hsz8
  go_enter Try.func90, Try.ntmps90
  go_wp2_with (simp only [hov])
  go_region_held3 (fun W => TruS W) (exact trivial) (first | (fail))
  go_wp2
  go_ret
  exact HF.out

/-- slices.Insert of one span. -/
theorem sinsert_any (base vb : Nat) (v : Value) (l : List Sp) (i : Nat) (X : Sp) (w : World) (hi : i ≤ l.length) (hl : l.length ≤ 100) (ho : w.ownsRow base 63 3 v l.length (scs l)) (hb : base ≤ w.heap.size) (hx : Rw w vb 63 X.l) (hne : v.ownBlock ≠ some vb) :
    Calls Try.prog 90 #[v, .int .i64 (i : Int), .slice (some ⟨vb, 0, none⟩) 1 1] w (InS base v.ownBlock l i X w) := by
  by_cases e : i = l.length
  · subst e; exact sinsert_end base vb v l X w hl ho hb hx hne
  · obtain ⟨g, cap, cur, rfl, hbg, hg, hlc, hm, hcs, hct⟩ := Rw.of_own ho (by omega)
    have hgv : g ≠ vb := fun e => hne (by rw [e]; rfl)
    by_cases hr : l.length + 1 ≤ cap
    · exact sinsert_shift base vb l i X w (by omega) hl g cap cur hbg hg hm hcs hct hb hx hgv hr
    · exact sinsert_grow base vb l i X w (by omega) hl g cap cur hbg hg hlc hm hcs hct hb hx hgv (by omega)
end Go.Proofs.Ytdilgeabcacbdaa
