/- What is proved here: in the statements of layer 8, awake is true; a message among the arguments opened to its numbers and its body, and shut again; the cells of a message among the arguments are a message's. -/
import Derived.Test.YtbeafcjbldnkhaaJ11
import Derived.Test.YtbeafcjbldnkhaaJ01
import Derived.Lib.SmallJoins
import Derived.ChangeSame
import Derived.Test.YtbeafcjbldnkhaaJ03
import Derived.Deep.Slices
import Derived.Deep.Fields
import Derived.ChangeArms
namespace Go.Proofs.Ytbeafcjbldnkhaa
open Go.RowKit
set_option linter.unusedVariables false

theorem rd_one8 (w : World) (M : Msg) (t : TypeId) : Rd (w.alloc (.cells M.cs t)) (w.heap.size + 1) 7 (some ⟨w.heap.size, 0, none⟩) 1 (lcs [M]) := by
  refine ⟨by rw [lcs_len]; rfl, fun _ => ⟨w.heap.size, 0, rfl, Nat.lt_succ_self _, fun j u hu => ?_⟩⟩
  rw [Nat.zero_add, World.cell?_alloc_new]
  have e : lcs [M] = M.l := by simp [lcs]
  rw [e] at hu
  show (M.l.toArray)[j]? = some u
  simpa using hu
theorem ls_one8 (w : World) (M : Msg) (t : TypeId) : Ls (w.alloc (.cells M.cs t)) (w.alloc (.cells M.cs t)).heap.size (.slice (some ⟨w.heap.size, 0, none⟩) 1 1) [M] := by
  have e : (w.alloc (.cells M.cs t)).heap.size = w.heap.size + 1 := by simp
  rw [e]
  exact ⟨_, 1, rfl, Nat.le_refl _, by unfold maxLen; omega, rd_one8 w M t⟩
/-- A message with nothing but an ID. -/
def idM (id : Int) : Msg := ⟨id, 0, 0, 0, 0, 0, ⟨#[]⟩⟩
theorem idM_vf {id : Int} (h : 1 ≤ id) (h2 : id ≤ 1073741824) : vf (idM id) = 0 := ok_vf ⟨⟨h, h2⟩, ⟨Int.le_refl 0, by simp [idM]⟩, ⟨Int.le_refl 0, by simp [idM]⟩, ⟨Int.le_refl 0, by simp [idM]⟩, ⟨Int.le_refl 0, by simp [idM]⟩, ⟨Int.le_refl 0, by simp [idM]⟩, Nat.zero_le _⟩
theorem pu8_good {cap : Int} {l : List Msg} {M : Msg} (h : Ok8 cap l) (h1 : (l.length : Int) < cap) (hM : vf M = 0) (hi : ∀ N ∈ l, N.id ≠ M.id) : pu8 cap l [M] = 0 ∧ Ok8 cap (l ++ [M]) := by
  have hd : ¬ dupP (l ++ [M]) := by
    rintro ⟨i, j, hi', hj, hij, e⟩
    have hil : i < l.length := by simp at hj; omega
    rw [List.getElem_append_left hil] at e
    by_cases hjl : j < l.length
    · rw [List.getElem_append_left hjl] at e
      exact h.dup ⟨i, j, hil, hjl, hij, e⟩
    · have hj0 : j = l.length := by simp at hj; omega
      subst hj0
      simp at e
      exact hi _ (List.getElem_mem hil) e
  have hok : Ok8 cap (l ++ [M]) := ⟨h.c1, h.c2, by rw [List.length_append]; simp; omega, fun N hN => by
    rcases List.mem_append.1 hN with h' | h'
    · exact h.all N h'
    · simp at h'; subst h'; exact hM, hd⟩
  refine ⟨?_, hok⟩
  rw [pu8_so (ok8_iff.2 h) (by simp; omega)]
  exact so8_ok (fe_all hok.all) hd
theorem pu8_no {cap : Int} {l : List Msg} {M : Msg} (h : Ok8 cap l) (h1 : ¬ (l.length : Int) < cap) : pu8 cap l [M] = 3 := pu8_full (ok8_iff.2 h) (by simp; have := h.len; omega)
theorem put8_good (cap : Int) (A : Option Addr) (c : Nat) (l : List Msg) (Ax : Option Addr) (cx : Nat) (M : Msg) (w : World) (h : Ok8 cap l) (h1 : (l.length : Int) < cap) (hM : vf M = 0) (hi : ∀ N ∈ l, N.id ≠ M.id) (hv : Ls w w.heap.size (.slice A l.length c) l) (hx : Ls w w.heap.size (.slice Ax 1 cx) [M]) :
    Calls Try.prog 19 #[.agg #[.int .i64 cap, .slice A l.length c], .slice Ax 1 cx] w (D8 w cap (l ++ [M]) 0) := by
  have hp := (pu8_good h h1 hM hi).1
  have := put8_any cap A l.length c l Ax 1 cx [M] w hv hx
  rwa [hp, show pu8C cap l [M] = cap from if_pos hp, show pu8L cap l [M] = l ++ [M] from if_pos hp] at this
theorem put8_bad (cap : Int) (A : Option Addr) (c : Nat) (l : List Msg) (Ax : Option Addr) (cx : Nat) (M : Msg) (w : World) (h : Ok8 cap l) (h1 : ¬ (l.length : Int) < cap) (hv : Ls w w.heap.size (.slice A l.length c) l) (hx : Ls w w.heap.size (.slice Ax 1 cx) [M]) :
    Calls Try.prog 19 #[.agg #[.int .i64 cap, .slice A l.length c], .slice Ax 1 cx] w (D8 w 0 [] 3) := by
  have hp := pu8_no (M := M) h h1
  have := put8_any cap A l.length c l Ax 1 cx [M] w hv hx
  rwa [hp, show pu8C cap l [M] = 0 from if_neg (by rw [hp]; decide), show pu8L cap l [M] = [] from if_neg (by rw [hp]; decide)] at this
set_option maxHeartbeats 4000000 in
set_option maxRecDepth 20000 in
theorem awake8_any (w : World) : Calls Try.prog 11 #[] w fun e w' => e = .returned (.bool true) ∧ Below w.heap.size w w' := by
  have k0 : Ok8 1 [] := ⟨by omega, by omega, by simp, by simp, by rintro ⟨i, _, h, _⟩; simp at h⟩
  have k1 : Ok8 1 [idM 1] := (pu8_good k0 (by simp) (idM_vf (by omega) (by omega)) (by simp)).2
  have HN := Lib.hid (fun W => show Calls Try.prog 7 #[.int .i64 1] W (N8 W 1 0) from new8_any 1 W)
  have HP1 := Lib.hid (fun Ax cx W (hx : Ls W W.heap.size (.slice Ax 1 cx) [idM 1]) => show Calls Try.prog 19 #[.agg #[.int .i64 1, .slice none 0 0], .slice Ax 1 cx] W (D8 W 1 [idM 1] 0) from put8_good 1 none 0 [] Ax cx (idM 1) W k0 (by simp) (idM_vf (by omega) (by omega)) (by simp) Ls.nil hx)
  have HP2 := Lib.hid (fun A c Ax cx W (hv : Ls W W.heap.size (.slice A 1 c) [idM 1]) (hx : Ls W W.heap.size (.slice Ax 1 cx) [idM 2]) => show Calls Try.prog 19 #[.agg #[.int .i64 1, .slice A 1 c], .slice Ax 1 cx] W (D8 W 0 [] 3) from put8_bad 1 A c [idM 1] Ax cx (idM 2) W k1 (by simp) hv hx)
  have HR := Lib.hid (fun A c W (hv : Ls W W.heap.size (.slice A 1 c) [idM 1]) => show Calls Try.prog 22 #[.agg #[.int .i64 1, .slice A 1 c]] W (V8 W 0) by
    have := room8_any 1 A 1 c [idM 1] W hv
    rwa [show ro8 1 [idM 1] = 0 from by unfold ro8; rw [if_pos (ok8_iff.2 k1)]; rfl] at this)
  clear k0 k1
  go_enter Try.func11, Try.ntmps11
  go_wp2_with fail
  refine (HN.out _).mono ?_
  rintro e w1 ⟨rfl, hb⟩
  have HB1 := Lib.hid hb
  have HD2 := Lib.hid (show DB ((w1.alloc (.cells #[.int .i64 1, .slice none 0 0] 24)).alloc (.cells #[.int .i64 1, .int .i64 0, .int .i64 0, .int .i64 0, .int .i64 0, .int .i64 0, .string ⟨#[]⟩] 37)) w1.heap.size 1 none 0 0 from (DB.fresh w1 1 none 0 0 24).alloc _)
  have hl1 := ls_one8 (w1.alloc (.cells #[.int .i64 1, .slice none 0 0] 24)) (idM 1) 37
  rw [show (w1.alloc (.cells #[.int .i64 1, .slice none 0 0] 24)).heap.size = w1.heap.size + 1 by simp] at hl1
  have HL1 := Lib.hid (show Ls ((w1.alloc (.cells #[.int .i64 1, .slice none 0 0] 24)).alloc (.cells #[.int .i64 1, .int .i64 0, .int .i64 0, .int .i64 0, .int .i64 0, .int .i64 0, .string ⟨#[]⟩] 37)) ((w1.alloc (.cells #[.int .i64 1, .slice none 0 0] 24)).alloc (.cells #[.int .i64 1, .int .i64 0, .int .i64 0, .int .i64 0, .int .i64 0, .int .i64 0, .string ⟨#[]⟩] 37)).heap.size (.slice (some ⟨w1.heap.size + 1, 0, none⟩) 1 1) [idM 1] from hl1)
  have HB2 := Lib.hid (show Below w.heap.size w ((w1.alloc (.cells #[.int .i64 1, .slice none 0 0] 24)).alloc (.cells #[.int .i64 1, .int .i64 0, .int .i64 0, .int .i64 0, .int .i64 0, .int .i64 0, .string ⟨#[]⟩] 37)) from (hb.alloc hb.size _).alloc (by have := hb.size; simp; omega) _)
  have HPW := Lib.hid hb.size
  clear hb hl1
  go_wp2_with fail
  obtain ⟨p, hp⟩ : ∃ p, p = w1.heap.size := ⟨_, rfl⟩
  rw [← hp] at HD2 HPW HL1
  rw [← hp]
  clear hp
  generalize (w1.alloc (.cells #[.int .i64 1, .slice none 0 0] 24)).alloc (.cells #[.int .i64 1, .int .i64 0, .int .i64 0, .int .i64 0, .int .i64 0, .int .i64 0, .string ⟨#[]⟩] 37) = w2 at *
  refine (HP1.out _ _ _ HL1.out).mono ?_
  rintro e w3 ⟨A3, c3, rfl, hn, hl, hb⟩
  have HD3 := Lib.hid (HD2.out.up hb)
  have HB3 := Lib.hid (HB2.out.trans (hb.mono HB2.out.size))
  have HR4 := Lib.hid ((⟨HD3.out.put 1 A3 1 c3, (by simpa using (hl.offo (p := ⟨p, 0, none⟩) (ob_nw hn HD2.out.lt) (.int .i64 1)).offo (p := ⟨p, 1, none⟩) (ob_nw hn HD2.out.lt) (.slice A3 1 c3)), hn⟩ : Re8 w2.heap.size p 1 A3 c3 [idM 1] ((w3.setCell ⟨p, 0, none⟩ (.int .i64 1)).setCell ⟨p, 1, none⟩ (.slice A3 1 c3))))
  have HB4 := Lib.hid (show Below w.heap.size w ((w3.setCell ⟨p, 0, none⟩ (.int .i64 1)).setCell ⟨p, 1, none⟩ (.slice A3 1 c3)) from (HB3.out.setCell (p := ⟨p, 0, none⟩) HPW.out _).setCell (p := ⟨p, 1, none⟩) HPW.out _)
  have HR5 := Lib.hid (HR4.out.alloc (.cells #[.int .i64 2, .int .i64 0, .int .i64 0, .int .i64 0, .int .i64 0, .int .i64 0, .string ⟨#[]⟩] 37))
  have hl2 := ls_one8 ((w3.setCell ⟨p, 0, none⟩ (.int .i64 1)).setCell ⟨p, 1, none⟩ (.slice A3 1 c3)) (idM 2) 37
  rw [show ((w3.setCell ⟨p, 0, none⟩ (.int .i64 1)).setCell ⟨p, 1, none⟩ (.slice A3 1 c3)).heap.size = w3.heap.size by simp] at hl2
  have HL2 := Lib.hid (show Ls (((w3.setCell ⟨p, 0, none⟩ (.int .i64 1)).setCell ⟨p, 1, none⟩ (.slice A3 1 c3)).alloc (.cells #[.int .i64 2, .int .i64 0, .int .i64 0, .int .i64 0, .int .i64 0, .int .i64 0, .string ⟨#[]⟩] 37)) (((w3.setCell ⟨p, 0, none⟩ (.int .i64 1)).setCell ⟨p, 1, none⟩ (.slice A3 1 c3)).alloc (.cells #[.int .i64 2, .int .i64 0, .int .i64 0, .int .i64 0, .int .i64 0, .int .i64 0, .string ⟨#[]⟩] 37)).heap.size (.slice (some ⟨w3.heap.size, 0, none⟩) 1 1) [idM 2] from hl2)
  have HB5 := Lib.hid (HB4.out.alloc HB4.out.size (.cells #[.int .i64 2, .int .i64 0, .int .i64 0, .int .i64 0, .int .i64 0, .int .i64 0, .string ⟨#[]⟩] 37))
  clear hn hl hb hl2 HL1 HD2
  obtain ⟨t0, t1, tl, f0, f1⟩ := HD3.out.all
  go_wp2_with fail
  clear t0 t1 tl f0 f1
  generalize ((w3.setCell ⟨p, 0, none⟩ (.int .i64 1)).setCell ⟨p, 1, none⟩ (.slice A3 1 c3)).alloc (.cells #[.int .i64 2, .int .i64 0, .int .i64 0, .int .i64 0, .int .i64 0, .int .i64 0, .string ⟨#[]⟩] 37) = w5 at *
  refine (HP2.out _ _ _ _ _ HR5.out.ls HL2.out).mono ?_
  rintro e w6 ⟨A6, c6, rfl, hn, hl, hb⟩
  have HR6 := Lib.hid ((HR5.out.below hb).alloc (.cells #[.int .i64 0, .slice A6 0 c6] 24))
  have HB6 := Lib.hid ((HB5.out.trans (hb.mono HB5.out.size)).alloc (by have := HB5.out.size; have := hb.size; omega) (.cells #[.int .i64 0, .slice A6 0 c6] 24))
  clear hn hl hb
  obtain ⟨t0, t1, tl⟩ := HR6.out.db.facts
  go_wp2_with fail
  clear t0 t1 tl
  refine (HR.out _ _ _ HR6.out.ls).mono ?_
  rintro e w7 ⟨rfl, hb⟩
  have HB7 := Lib.hid (HB6.out.trans (hb.mono HB6.out.size))
  clear hb
  go_wp2
  go_ret
  exact ⟨rfl, HB7.out⟩
end Go.Proofs.Ytbeafcjbldnkhaa
namespace Go.Proofs.Ytbeafcjbldnkhaa
open Go.Joins Go.ChangeShapes Go.WideShapes Go.RowKit Go.Deep
set_option linter.unusedVariables false

section
variable {H : Type} {enc : TypeId × Value → H} {P : Program} {w : World} {base : Nat} {spare : Nat → Bool} {held : Bool}
theorem open_agg7 {r : Reach} {b0 : Nat} {t : TypeId} {f0 f1 f2 f3 f4 f5 f6 : Field} {v : Value} {d : DataW H} {p : List MemPlace} (hs : P.underlying t = some (.struct #[f0, f1, f2, f3, f4, f5, f6])) (hone : oneCellFields P #[f0, f1, f2, f3, f4, f5, f6] = true) (hC : P.cellsOf t = 7)
    (hv : Value.okWide P w r b0 t v) (h : DataW.Trod enc P w base spare held t v d p) :
    ∃ (v0 v1 v2 v3 v4 v5 v6 : Value) (y0 y1 y2 y3 y4 y5 y6 : DataW H × List MemPlace) (n : Nat), v = .agg #[v0, v1, v2, v3, v4, v5, v6] ∧ d = .agg [y0.1, y1.1, y2.1, y3.1, y4.1, y5.1, y6.1] ∧ p = y0.2 ++ (y1.2 ++ (y2.2 ++ (y3.2 ++ (y4.2 ++ (y5.2 ++ (y6.2)))))) ∧
      DataW.trod enc P w base spare held n f0.type [v0] = some y0 ∧ DataW.trod enc P w base spare held n f1.type [v1] = some y1 ∧ DataW.trod enc P w base spare held n f2.type [v2] = some y2 ∧ DataW.trod enc P w base spare held n f3.type [v3] = some y3 ∧ DataW.trod enc P w base spare held n f4.type [v4] = some y4 ∧ DataW.trod enc P w base spare held n f5.type [v5] = some y5 ∧ DataW.trod enc P w base spare held n f6.type [v6] = some y6 := by
  obtain ⟨cs, rfl, hsz⟩ := okWide_struct hs hv
  obtain ⟨l⟩ := cs
  match l, hsz.trans hC with
  | [c0, c1, c2, c3, c4, c5, c6], _ =>
    obtain ⟨fuel, hf⟩ := h
    obtain ⟨xs, n, _, hx, _, hlen, hg⟩ := DataW.trod_struct hs hf
    obtain ⟨o0, k0⟩ := hone_of hone 0 f0 rfl
    obtain ⟨o1, k1⟩ := hone_of hone 1 f1 rfl
    obtain ⟨o2, k2⟩ := hone_of hone 2 f2 rfl
    obtain ⟨o3, k3⟩ := hone_of hone 3 f3 rfl
    obtain ⟨o4, k4⟩ := hone_of hone 4 f4 rfl
    obtain ⟨o5, k5⟩ := hone_of hone 5 f5 rfl
    obtain ⟨o6, k6⟩ := hone_of hone 6 f6 rfl
    match xs, hlen with
    | [y0, y1, y2, y3, y4, y5, y6], _ =>
      simp only [Prod.mk.injEq] at hx
      exact ⟨c0, c1, c2, c3, c4, c5, c6, y0, y1, y2, y3, y4, y5, y6, n, rfl, by simpa using hx.1, by simpa using hx.2, by simpa [Value.cells, o0, k0] using hg 0 f0 rfl, by simpa [Value.cells, o1, k1] using hg 1 f1 rfl, by simpa [Value.cells, o2, k2] using hg 2 f2 rfl, by simpa [Value.cells, o3, k3] using hg 3 f3 rfl, by simpa [Value.cells, o4, k4] using hg 4 f4 rfl, by simpa [Value.cells, o5, k5] using hg 5 f5 rfl, by simpa [Value.cells, o6, k6] using hg 6 f6 rfl⟩

theorem shut_agg7 {t : TypeId} {f0 f1 f2 f3 f4 f5 f6 : Field} {v0 v1 v2 v3 v4 v5 v6 : Value} {y0 y1 y2 y3 y4 y5 y6 : DataW H × List MemPlace} (hs : P.underlying t = some (.struct #[f0, f1, f2, f3, f4, f5, f6])) (hone : oneCellFields P #[f0, f1, f2, f3, f4, f5, f6] = true) (hC : P.cellsOf t = 7)
    (t0 : ∃ n, DataW.trod enc P w base spare held n f0.type [v0] = some y0) (t1 : ∃ n, DataW.trod enc P w base spare held n f1.type [v1] = some y1) (t2 : ∃ n, DataW.trod enc P w base spare held n f2.type [v2] = some y2) (t3 : ∃ n, DataW.trod enc P w base spare held n f3.type [v3] = some y3) (t4 : ∃ n, DataW.trod enc P w base spare held n f4.type [v4] = some y4) (t5 : ∃ n, DataW.trod enc P w base spare held n f5.type [v5] = some y5) (t6 : ∃ n, DataW.trod enc P w base spare held n f6.type [v6] = some y6) :
    DataW.Trod enc P w base spare held t (.agg #[v0, v1, v2, v3, v4, v5, v6]) (.agg [y0.1, y1.1, y2.1, y3.1, y4.1, y5.1, y6.1]) (y0.2 ++ (y1.2 ++ (y2.2 ++ (y3.2 ++ (y4.2 ++ (y5.2 ++ (y6.2))))))) := by
  obtain ⟨n0, t0⟩ := t0
  obtain ⟨n1, t1⟩ := t1
  obtain ⟨n2, t2⟩ := t2
  obtain ⟨n3, t3⟩ := t3
  obtain ⟨n4, t4⟩ := t4
  obtain ⟨n5, t5⟩ := t5
  obtain ⟨n6, t6⟩ := t6
  obtain ⟨o0, k0⟩ := hone_of hone 0 f0 rfl
  obtain ⟨o1, k1⟩ := hone_of hone 1 f1 rfl
  obtain ⟨o2, k2⟩ := hone_of hone 2 f2 rfl
  obtain ⟨o3, k3⟩ := hone_of hone 3 f3 rfl
  obtain ⟨o4, k4⟩ := hone_of hone 4 f4 rfl
  obtain ⟨o5, k5⟩ := hone_of hone 5 f5 rfl
  obtain ⟨o6, k6⟩ := hone_of hone 6 f6 rfl
  have s0 : DataW.trod enc P w base spare held (n0 + n1 + n2 + n3 + n4 + n5 + n6) f0.type ((([v0, v1, v2, v3, v4, v5, v6] : List Value).drop f0.offset).take (P.cellsOf f0.type)) = some y0 := by simpa [o0, k0] using DataW.trod_le (show n0 ≤ n0 + n1 + n2 + n3 + n4 + n5 + n6 by omega) t0
  have s1 : DataW.trod enc P w base spare held (n0 + n1 + n2 + n3 + n4 + n5 + n6) f1.type ((([v0, v1, v2, v3, v4, v5, v6] : List Value).drop f1.offset).take (P.cellsOf f1.type)) = some y1 := by simpa [o1, k1] using DataW.trod_le (show n1 ≤ n0 + n1 + n2 + n3 + n4 + n5 + n6 by omega) t1
  have s2 : DataW.trod enc P w base spare held (n0 + n1 + n2 + n3 + n4 + n5 + n6) f2.type ((([v0, v1, v2, v3, v4, v5, v6] : List Value).drop f2.offset).take (P.cellsOf f2.type)) = some y2 := by simpa [o2, k2] using DataW.trod_le (show n2 ≤ n0 + n1 + n2 + n3 + n4 + n5 + n6 by omega) t2
  have s3 : DataW.trod enc P w base spare held (n0 + n1 + n2 + n3 + n4 + n5 + n6) f3.type ((([v0, v1, v2, v3, v4, v5, v6] : List Value).drop f3.offset).take (P.cellsOf f3.type)) = some y3 := by simpa [o3, k3] using DataW.trod_le (show n3 ≤ n0 + n1 + n2 + n3 + n4 + n5 + n6 by omega) t3
  have s4 : DataW.trod enc P w base spare held (n0 + n1 + n2 + n3 + n4 + n5 + n6) f4.type ((([v0, v1, v2, v3, v4, v5, v6] : List Value).drop f4.offset).take (P.cellsOf f4.type)) = some y4 := by simpa [o4, k4] using DataW.trod_le (show n4 ≤ n0 + n1 + n2 + n3 + n4 + n5 + n6 by omega) t4
  have s5 : DataW.trod enc P w base spare held (n0 + n1 + n2 + n3 + n4 + n5 + n6) f5.type ((([v0, v1, v2, v3, v4, v5, v6] : List Value).drop f5.offset).take (P.cellsOf f5.type)) = some y5 := by simpa [o5, k5] using DataW.trod_le (show n5 ≤ n0 + n1 + n2 + n3 + n4 + n5 + n6 by omega) t5
  have s6 : DataW.trod enc P w base spare held (n0 + n1 + n2 + n3 + n4 + n5 + n6) f6.type ((([v0, v1, v2, v3, v4, v5, v6] : List Value).drop f6.offset).take (P.cellsOf f6.type)) = some y6 := by simpa [o6, k6] using DataW.trod_le (show n6 ≤ n0 + n1 + n2 + n3 + n4 + n5 + n6 by omega) t6
  have := trod_struct_mk (enc := enc) (w := w) (base := base) (spare := spare) (held := held) (n := n0 + n1 + n2 + n3 + n4 + n5 + n6) (cs := [v0, v1, v2, v3, v4, v5, v6]) (xs := [y0, y1, y2, y3, y4, y5, y6]) hs (by simp [hC]) (by simp only [List.mapM_cons, List.mapM_nil, s0, s1, s2, s3, s4, s5, s6]; rfl)
  exact ⟨_, by simpa [Value.cells] using this⟩
end

/-- The message as data. -/
def Msg.d {H : Type} (M : Msg) : DataW H := .agg [.lit (.int .i64 M.id), .lit (.int .i64 M.rt), .lit (.int .i64 M.ep), .lit (.int .i64 M.ct), .lit (.int .i64 M.gn), .lit (.int .i64 M.st), .lit (.string M.bd.data.toList)]
/-- The numbers are numbers of 64 bits, the body is no longer than a string can be. -/
def Msg.wf (M : Msg) : Prop := (Lit.int .i64 M.id).wf = true ∧ (Lit.int .i64 M.rt).wf = true ∧ (Lit.int .i64 M.ep).wf = true ∧ (Lit.int .i64 M.ct).wf = true ∧ (Lit.int .i64 M.gn).wf = true ∧ (Lit.int .i64 M.st).wf = true ∧ M.bd.size ≤ maxLen

theorem msg_cells : Try.prog.cellsOf 37 = 7 := by kernel_rfl

section
variable {H : Type} {enc : TypeId × Value → H} {w : World} {base : Nat} {spare : Nat → Bool} {held : Bool}
set_option maxRecDepth 20000 in
theorem open_msg {r : Reach} {b0 : Nat} {v : Value} {d : DataW H} {p : List MemPlace} (hv : Value.okWide Try.prog w r b0 37 v) (h : DataW.Trod enc Try.prog w base spare held 37 v d p) :
    ∃ M : Msg, v = M.v ∧ d = M.d ∧ p = [] ∧ M.wf := by
  obtain ⟨c0, c1, c2, c3, c4, c5, c6, y0, y1, y2, y3, y4, y5, y6, n, rfl, rfl, rfl, hy0, hy1, hy2, hy3, hy4, hy5, hy6⟩ := open_agg7 Try.underlying37 (by kernel_rfl) msg_cells hv h
  obtain ⟨a0, e0, rfl, w0⟩ := DataW.trod_int Try.underlying3 hy0
  obtain ⟨a1, e1, rfl, w1⟩ := DataW.trod_int Try.underlying3 hy1
  obtain ⟨a2, e2, rfl, w2⟩ := DataW.trod_int Try.underlying3 hy2
  obtain ⟨a3, e3, rfl, w3⟩ := DataW.trod_int Try.underlying3 hy3
  obtain ⟨a4, e4, rfl, w4⟩ := DataW.trod_int Try.underlying3 hy4
  obtain ⟨a5, e5, rfl, w5⟩ := DataW.trod_int Try.underlying3 hy5
  obtain ⟨a6, e6, rfl, w6⟩ := DataW.trod_string Try.underlying9 hy6
  simp at e0 e1 e2 e3 e4 e5 e6
  subst e0 e1 e2 e3 e4 e5 e6
  exact ⟨⟨a0, a1, a2, a3, a4, a5, a6⟩, rfl, rfl, rfl, w0, w1, w2, w3, w4, w5, w6⟩
set_option maxRecDepth 20000 in
theorem shut_msg (M : Msg) (h : M.wf) : DataW.Trod enc Try.prog w base spare held 37 M.v M.d [] := by
  obtain ⟨w0, w1, w2, w3, w4, w5, w6⟩ := h
  exact shut_agg7 (y0 := (.lit (.int .i64 M.id), [])) (y1 := (.lit (.int .i64 M.rt), [])) (y2 := (.lit (.int .i64 M.ep), [])) (y3 := (.lit (.int .i64 M.ct), [])) (y4 := (.lit (.int .i64 M.gn), [])) (y5 := (.lit (.int .i64 M.st), [])) (y6 := (.lit (.string M.bd.data.toList), [])) Try.underlying37 (by kernel_rfl) msg_cells
    ⟨1, by simp [DataW.trod, Try.underlying3, w0]⟩ ⟨1, by simp [DataW.trod, Try.underlying3, w1]⟩ ⟨1, by simp [DataW.trod, Try.underlying3, w2]⟩ ⟨1, by simp [DataW.trod, Try.underlying3, w3]⟩ ⟨1, by simp [DataW.trod, Try.underlying3, w4]⟩ ⟨1, by simp [DataW.trod, Try.underlying3, w5]⟩ ⟨1, by simp [DataW.trod, Try.underlying9, w6]⟩
end
end Go.Proofs.Ytbeafcjbldnkhaa
namespace Go.Proofs.Ytbeafcjbldnkhaa
open Go.Joins Go.ChangeShapes Go.WideShapes Go.RowKit Go.Deep
set_option linter.unusedVariables false

section
variable {H : Type} {enc : TypeId × Value → H} {w : World} {base : Nat} {spare : Nat → Bool} {held : Bool}
theorem cells7 {P : Program} {t : TypeId} {f0 f1 f2 f3 f4 f5 f6 : Field} {fuel : Nat} {cs : List Value} {x : DataW H × List MemPlace} (hs : P.underlying t = some (.struct #[f0, f1, f2, f3, f4, f5, f6])) (hone : oneCellFields P #[f0, f1, f2, f3, f4, f5, f6] = true)
    (hl : cs.length = 7) (h : DataW.trod enc P w base spare held fuel t cs = some x) :
    ∃ (v0 v1 v2 v3 v4 v5 v6 : Value) (y0 y1 y2 y3 y4 y5 y6 : DataW H × List MemPlace) (n : Nat), cs = [v0, v1, v2, v3, v4, v5, v6] ∧
      DataW.trod enc P w base spare held n f0.type [v0] = some y0 ∧ DataW.trod enc P w base spare held n f1.type [v1] = some y1 ∧ DataW.trod enc P w base spare held n f2.type [v2] = some y2 ∧ DataW.trod enc P w base spare held n f3.type [v3] = some y3 ∧ DataW.trod enc P w base spare held n f4.type [v4] = some y4 ∧ DataW.trod enc P w base spare held n f5.type [v5] = some y5 ∧ DataW.trod enc P w base spare held n f6.type [v6] = some y6 := by
  match cs, hl with
  | [c0, c1, c2, c3, c4, c5, c6], _ =>
    obtain ⟨xs, n, _, hx, _, hlen, hg⟩ := DataW.trod_struct hs h
    obtain ⟨o0, k0⟩ := hone_of hone 0 f0 rfl
    obtain ⟨o1, k1⟩ := hone_of hone 1 f1 rfl
    obtain ⟨o2, k2⟩ := hone_of hone 2 f2 rfl
    obtain ⟨o3, k3⟩ := hone_of hone 3 f3 rfl
    obtain ⟨o4, k4⟩ := hone_of hone 4 f4 rfl
    obtain ⟨o5, k5⟩ := hone_of hone 5 f5 rfl
    obtain ⟨o6, k6⟩ := hone_of hone 6 f6 rfl
    match xs, hlen with
    | [y0, y1, y2, y3, y4, y5, y6], _ =>
      exact ⟨c0, c1, c2, c3, c4, c5, c6, y0, y1, y2, y3, y4, y5, y6, n, rfl, by simpa [o0, k0] using hg 0 f0 rfl, by simpa [o1, k1] using hg 1 f1 rfl, by simpa [o2, k2] using hg 2 f2 rfl, by simpa [o3, k3] using hg 3 f3 rfl, by simpa [o4, k4] using hg 4 f4 rfl, by simpa [o5, k5] using hg 5 f5 rfl, by simpa [o6, k6] using hg 6 f6 rfl⟩
theorem msg_one {fuel : Nat} {cs : List Value} {x : DataW H × List MemPlace} (h : DataW.trod enc Try.prog w base spare held fuel 37 cs = some x) (hl : cs.length = 7) :
    ∃ M : Msg, cs = M.l := by
  obtain ⟨c0, c1, c2, c3, c4, c5, c6, y0, y1, y2, y3, y4, y5, y6, n, rfl, g0, g1, g2, g3, g4, g5, g6⟩ := cells7 Try.underlying37 (by kernel_rfl) hl h
  obtain ⟨a0, z0, _, _⟩ := DataW.trod_int Try.underlying3 g0
  obtain ⟨a1, z1, _, _⟩ := DataW.trod_int Try.underlying3 g1
  obtain ⟨a2, z2, _, _⟩ := DataW.trod_int Try.underlying3 g2
  obtain ⟨a3, z3, _, _⟩ := DataW.trod_int Try.underlying3 g3
  obtain ⟨a4, z4, _, _⟩ := DataW.trod_int Try.underlying3 g4
  obtain ⟨a5, z5, _, _⟩ := DataW.trod_int Try.underlying3 g5
  obtain ⟨a6, z6, _, _⟩ := DataW.trod_string Try.underlying9 g6
  simp at z0 z1 z2 z3 z4 z5 z6
  subst z0 z1 z2 z3 z4 z5 z6
  exact ⟨⟨a0, a1, a2, a3, a4, a5, a6⟩, rfl⟩
end
end Go.Proofs.Ytbeafcjbldnkhaa
