/- What is proved here: parts of the proof: Shh Shu Qcl Shc Scl Shpt. -/
import Derived.Test.YtkecnihgjepfeaaGreatJ20
namespace Go.Proofs.YtkecnihgjepfeaaGreat
open Go.RowKit
set_option linter.unusedVariables false
set_option linter.unusedSimpArgs false
set_option maxHeartbeats 8000000
set_option maxRecDepth 20000
structure Hn where
 id:Int
 gn:Int
 rt:Int
 ht:Int
abbrev Hn.v (H:Hn):Value:=.agg #[.int .i64 H.id,.int .i64 H.gn,.int .i64 H.rt,.int .i64 H.ht]
def H4 (W:World) (q:Nat) (H:Hn):Prop:=W.cell? ⟨q,0,none⟩=some (.int .i64 H.id)/\W.cell? ⟨q,1,none⟩=some (.int .i64 H.gn)/\W.cell? ⟨q,2,none⟩=some (.int .i64 H.rt)/\W.cell? ⟨q,3,none⟩=some (.int .i64 H.ht)/\q<W.heap.size
theorem nl_two (w:World) (a b:Rn) (t:TypeId):Nl (w.alloc (.cells #[.int .i64 a.n,.int .i64 a.lo,.int .i64 a.hi,.int .i64 b.n,.int .i64 b.lo,.int .i64 b.hi] t)) (w.heap.size+1) (.slice (some ⟨w.heap.size,0,none⟩) 2 2) [a,b]:=by
 refine ⟨_,2,rfl,nLR _,by unfold maxLen;omega,by simp [rcs,Rn.l],fun _=>⟨w.heap.size,0,rfl,Nat.lt_succ_self _,fun j u hu=>?_⟩⟩
 rw [Nat.zero_add,World.cell?_alloc_new]
 simpa [rcs,Rn.l] using hu
section
variable {S:Sh} {M:Msg}
end
abbrev M7 (q:Nat) (M:Msg) (W:World):Prop:=W.cell? ⟨q,0,none⟩=some (.int .i64 M.id)/\W.cell? ⟨q,1,none⟩=some (.int .i64 M.rt)/\W.cell? ⟨q,2,none⟩=some (.int .i64 M.ep)/\W.cell? ⟨q,3,none⟩=some (.int .i64 M.ct)/\W.cell? ⟨q,4,none⟩=some (.int .i64 M.gn)/\W.cell? ⟨q,5,none⟩=some (.int .i64 M.st)/\W.cell? ⟨q,6,none⟩=some (.string M.bd)
structure MBx (W:World) (q:Nat) (M:Msg):Prop where
 m7:M7 q M W
 fr:∀ o,W.frozen? ⟨q,o,none⟩=false
 lt:q<W.heap.size
theorem MBx.keep {W W' : World} {q:Nat} {M:Msg} (h:MBx W q M) (hc:∀ o,W'.cell? ⟨q,o,none⟩=W.cell? ⟨q,o,none⟩) (hf:∀ o,W'.frozen? ⟨q,o,none⟩=W.frozen? ⟨q,o,none⟩) (hs:W.heap.size<=W'.heap.size):MBx W' q M:=by
 obtain ⟨⟨h0,h1,h2,h3,h4,h5,h6⟩,hfr,hl⟩:=h
 exact ⟨⟨(hc 0).trans h0,(hc 1).trans h1,(hc 2).trans h2,(hc 3).trans h3,(hc 4).trans h4,(hc 5).trans h5,(hc 6).trans h6⟩,fun o=>(hf o).trans (hfr o),Nat.lt_of_lt_of_le hl hs⟩
theorem MBx.up {W W' : World} {q:Nat} {M:Msg} (h:MBx W q M) (hb:Below W.heap.size W W'):MBx W' q M:=h.keep (fun o=>hb.cell (p:=⟨q,o,none⟩) h.lt) (fun o=>hb.frozen (p:=⟨q,o,none⟩) h.lt) hb.size
theorem MBx.start (w:World) (M:Msg) (t:TypeId):MBx (w.alloc (.cells #[.int .i64 M.id,.int .i64 M.rt,.int .i64 M.ep,.int .i64 M.ct,.int .i64 M.gn,.int .i64 M.st,.string M.bd] t)) w.heap.size M:=
 ⟨⟨by simp [go_sem],by simp [go_sem],by simp [go_sem],by simp [go_sem],by simp [go_sem],by simp [go_sem],by simp [go_sem]⟩,fun o=>by simp [go_sem],by simp⟩
structure SmAt (w:World) (p q:Nat) (S:Sh) (D:Sx) (M:Msg) (W:World):Prop where
 sa:SAt w p S D W
 mb:MBx W q M
 lt:p<q
theorem info_slc:(Tryz.prog.info? 74).map (fun i=>(i.zero,i.size,i.bytes))=some (some (Sl.v zSl),9,120):=by kernel_rfl
def SLClP (w:World) (l:List Sl) (e:Ending) (w' : World):Prop:=∃ v,e=.returned v/\w'.ownsRow w.heap.size 74 9 v l.length (qcs l)/\Below w.heap.size w w'
theorem slclone_end {w w1:World} {l:List Sl} {v1:Value} {o:Obj} (hown:w1.ownsRow w.heap.size 74 9 v1 (0+l.length) ([]++qcs l)) (hg:(w.alloc o).grownBy w1 (Value.ownBlock (.slice (some ⟨w.heap.size,0,none⟩) 0 0))):SLClP w l (.returned v1) w1:=by
 rw [Nat.zero_add,List.nil_append] at hown
 exact ⟨v1,rfl,hown,(((Below.refl _ _).alloc (nLR _) o)).grown hg (by simp) (fun k hk=>by simp [Value.ownBlock] at hk;omega)⟩
theorem slclone_any (A:Option Addr) (n c:Nat) (l:List Sl) (w:World) (hv:Ql w w.heap.size (.slice A n c) l) (h2:n<=1000) :
  Calls Tryz.prog 56 #[.slice A n c] w (SLClP w l):=by
 obtain ⟨rfl,hm1,hm2⟩:=hv.len
 obtain ⟨i0,hi0,hz0⟩:=Option.map_eq_some_iff.1 info_slc
 simp only [Prod.mk.injEq] at hz0
 have HI:=Lh hi0
 have HZ:=Lh hz0
 have HV:=Lh hv
 have heq:∀ W,(binOp .eql 25 (.slice A l.length c) (.slice none 0 0)).run Tryz.prog W=.ok (.bool A.isNone) W:=fun W=>Lib.run_eql_slice_nil W _ _ _ _ _ _ _ Tryz.underlying25
 have HRD:=Lh hv.rd
 clear hv hi0 hz0
 cases A with
 | none=>
  have hl:l=[]:=by
   cases l with
   | nil=>rfl
   | cons d l=>obtain ⟨b,o,e,_⟩:=HRD.out.2 (by simp);cases e
  subst hl
  have HP:=Lh (show SLClP w [] (.returned (.slice none 0 0)) w from ⟨_,rfl,World.ownsRow_nil w _ _ _,Below.refl _ _⟩)
  simp only [List.length_nil,Option.isNone_none] at heq ⊢
  go_enter Tryz.func56,Tryz.ntmps56
  go_wp2
  go_ret
  exact HP.out
 | some a=>
  simp only [Option.isNone_some] at heq
  go_enter Tryz.func56,Tryz.ntmps56
  go_wp2_with (at_builtin;refine wpList_append_rd _ rfl (.tmp 5) (.tmp 6) 25 rfl w.heap.size 74 i0 _ 9 120 Tryz.underlying25 HI.out HZ.out.1 HZ.out.2.1 HZ.out.2.2 rfl (by omega) (.slice (some ⟨w.heap.size,0,none⟩) 0 0) 0 [] rfl (World.ownsRow_made w #[] 0 (nLR _) (Nat.zero_le _) rfl) w.heap.size (some a) l.length c (qcs l) rfl (HV.out.alloc (nLR _) _).rd (qcs_one l) (by unfold maxLen;omega) (by omega) (by simp) ?_;intro v1 w1 hown1 hg1 hat1)
  have HP:=Lh (slclone_end hown1 hg1)
  clear hown1 hg1 hat1
  go_wp2
  go_ret
  exact HP.out
theorem info_stc:(Tryz.prog.info? 63).map (fun i=>(i.zero,i.size,i.bytes))=some (some (St.v zSt),4,32):=by kernel_rfl
def STClP (w:World) (l:List St) (e:Ending) (w' : World):Prop:=∃ v,e=.returned v/\w'.ownsRow w.heap.size 63 4 v l.length (tcs l)/\Below w.heap.size w w'
theorem stclone_end {w w1:World} {l:List St} {v1:Value} {o:Obj} (hown:w1.ownsRow w.heap.size 63 4 v1 (0+l.length) ([]++tcs l)) (hg:(w.alloc o).grownBy w1 (Value.ownBlock (.slice (some ⟨w.heap.size,0,none⟩) 0 0))):STClP w l (.returned v1) w1:=by
 rw [Nat.zero_add,List.nil_append] at hown
 exact ⟨v1,rfl,hown,(((Below.refl _ _).alloc (nLR _) o)).grown hg (by simp) (fun k hk=>by simp [Value.ownBlock] at hk;omega)⟩
theorem stclone_any (A:Option Addr) (n c:Nat) (l:List St) (w:World) (hv:Tl w w.heap.size (.slice A n c) l) (h2:n<=1000) :
  Calls Tryz.prog 52 #[.slice A n c] w (STClP w l):=by
 obtain ⟨rfl,hm1,hm2⟩:=hv.len
 obtain ⟨i0,hi0,hz0⟩:=Option.map_eq_some_iff.1 info_stc
 simp only [Prod.mk.injEq] at hz0
 have HI:=Lh hi0
 have HZ:=Lh hz0
 have HV:=Lh hv
 have heq:∀ W,(binOp .eql 26 (.slice A l.length c) (.slice none 0 0)).run Tryz.prog W=.ok (.bool A.isNone) W:=fun W=>Lib.run_eql_slice_nil W _ _ _ _ _ _ _ Tryz.underlying26
 have HRD:=Lh hv.rd
 clear hv hi0 hz0
 cases A with
 | none=>
  have hl:l=[]:=by
   cases l with
   | nil=>rfl
   | cons d l=>obtain ⟨b,o,e,_⟩:=HRD.out.2 (by simp);cases e
  subst hl
  have HP:=Lh (show STClP w [] (.returned (.slice none 0 0)) w from ⟨_,rfl,World.ownsRow_nil w _ _ _,Below.refl _ _⟩)
  simp only [List.length_nil,Option.isNone_none] at heq ⊢
  go_enter Tryz.func52,Tryz.ntmps52
  go_wp2
  go_ret
  exact HP.out
 | some a=>
  simp only [Option.isNone_some] at heq
  go_enter Tryz.func52,Tryz.ntmps52
  go_wp2_with (at_builtin;refine wpList_append_rd _ rfl (.tmp 5) (.tmp 6) 26 rfl w.heap.size 63 i0 _ 4 32 Tryz.underlying26 HI.out HZ.out.1 HZ.out.2.1 HZ.out.2.2 rfl (by omega) (.slice (some ⟨w.heap.size,0,none⟩) 0 0) 0 [] rfl (World.ownsRow_made w #[] 0 (nLR _) (Nat.zero_le _) rfl) w.heap.size (some a) l.length c (tcs l) rfl (HV.out.alloc (nLR _) _).rd (tcs_one l) (by unfold maxLen;omega) (by omega) (by simp) ?_;intro v1 w1 hown1 hg1 hat1)
  have HP:=Lh (stclone_end hown1 hg1)
  clear hown1 hg1 hat1
  go_wp2
  go_ret
  exact HP.out
theorem info_mgc:(Tryz.prog.info? 79).map (fun i=>(i.zero,i.size,i.bytes))=some (some (Msg.v zM),7,64):=by kernel_rfl
def MGClP (w:World) (l:List Msg) (e:Ending) (w' : World):Prop:=∃ v,e=.returned v/\w'.ownsRow w.heap.size 79 7 v l.length (lcs l)/\Below w.heap.size w w'
theorem mgclone_end {w w1:World} {l:List Msg} {v1:Value} {o:Obj} (hown:w1.ownsRow w.heap.size 79 7 v1 (0+l.length) ([]++lcs l)) (hg:(w.alloc o).grownBy w1 (Value.ownBlock (.slice (some ⟨w.heap.size,0,none⟩) 0 0))):MGClP w l (.returned v1) w1:=by
 rw [Nat.zero_add,List.nil_append] at hown
 exact ⟨v1,rfl,hown,(((Below.refl _ _).alloc (nLR _) o)).grown hg (by simp) (fun k hk=>by simp [Value.ownBlock] at hk;omega)⟩
theorem mgclone_any (A:Option Addr) (n c:Nat) (l:List Msg) (w:World) (hv:Ls w w.heap.size (.slice A n c) l) (h2:n<=1000) :
  Calls Tryz.prog 49 #[.slice A n c] w (MGClP w l):=by
 obtain ⟨rfl,hm1,hm2⟩:=hv.len
 obtain ⟨i0,hi0,hz0⟩:=Option.map_eq_some_iff.1 info_mgc
 simp only [Prod.mk.injEq] at hz0
 have HI:=Lh hi0
 have HZ:=Lh hz0
 have HV:=Lh hv
 have heq:∀ W,(binOp .eql 27 (.slice A l.length c) (.slice none 0 0)).run Tryz.prog W=.ok (.bool A.isNone) W:=fun W=>Lib.run_eql_slice_nil W _ _ _ _ _ _ _ Tryz.underlying27
 have HRD:=Lh hv.rd
 clear hv hi0 hz0
 cases A with
 | none=>
  have hl:l=[]:=by
   cases l with
   | nil=>rfl
   | cons d l=>obtain ⟨b,o,e,_⟩:=HRD.out.2 (by simp);cases e
  subst hl
  have HP:=Lh (show MGClP w [] (.returned (.slice none 0 0)) w from ⟨_,rfl,World.ownsRow_nil w _ _ _,Below.refl _ _⟩)
  simp only [List.length_nil,Option.isNone_none] at heq ⊢
  go_enter Tryz.func49,Tryz.ntmps49
  go_wp2
  go_ret
  exact HP.out
 | some a=>
  simp only [Option.isNone_some] at heq
  go_enter Tryz.func49,Tryz.ntmps49
  go_wp2_with (at_builtin;refine wpList_append_rd _ rfl (.tmp 5) (.tmp 6) 27 rfl w.heap.size 79 i0 _ 7 64 Tryz.underlying27 HI.out HZ.out.1 HZ.out.2.1 HZ.out.2.2 rfl (by omega) (.slice (some ⟨w.heap.size,0,none⟩) 0 0) 0 [] rfl (World.ownsRow_made w #[] 0 (nLR _) (Nat.zero_le _) rfl) w.heap.size (some a) l.length c (lcs l) rfl (HV.out.alloc (nLR _) _).rd (lcs_one l) (by unfold maxLen;omega) (by omega) (by simp) ?_;intro v1 w1 hown1 hg1 hat1)
  have HP:=Lh (mgclone_end hown1 hg1)
  clear hown1 hg1 hat1
  go_wp2
  go_ret
  exact HP.out
end Go.Proofs.YtkecnihgjepfeaaGreat
/- Plain: lists as results in new memory. -/
namespace Go.Proofs.YtkecnihgjepfeaaGreat
open Go.RowKit
set_option linter.unusedVariables false
set_option linter.unusedSimpArgs false
set_option maxHeartbeats 8000000
set_option maxRecDepth 20000
def LsV (w:World) (l:List Msg) (e:Ending) (w' : World):Prop:=∃ A c,e=.returned (.slice A l.length c)/\Nw w.heap.size A/\Ls w' w'.heap.size (.slice A l.length c) l/\Below w.heap.size w w'
theorem eclp_elv {w w' : World} {l:List Le} {e:Ending} (h:EClP w l e w'):ElV w l e w':=by
 obtain ⟨v,rfl,ho,hb⟩:=h
 obtain ⟨A,c,rfl⟩:=own_form ho
 exact ⟨A,c,rfl,nwv_of (nwv_own ho (nLR _)),El.of_own ho,hb⟩
theorem dclp_dlv {w w' : World} {l:List Du} {e:Ending} (h:DClP w l e w'):DlV w l e w':=by
 obtain ⟨v,rfl,ho,hb⟩:=h
 obtain ⟨A,c,rfl⟩:=own_form ho
 exact ⟨A,c,rfl,nwv_of (nwv_own ho (nLR _)),Dl.of_own ho,hb⟩
end Go.Proofs.YtkecnihgjepfeaaGreat
namespace Go.Proofs.YtkecnihgjepfeaaGreat
open Go.RowKit
set_option linter.unusedVariables false
set_option linter.unusedSimpArgs false
set_option maxHeartbeats 8000000
set_option maxRecDepth 20000
structure Cs7c (w:World) (p r:Nat) (S:Sh) (D:Sx) (W:World):Prop where
 sa:SAt w p S D W
 rb:SB8 W r zS zX
 ne:p<r/\w.heap.size<=r
section
variable {w W W' : World} {p r:Nat} {S:Sh} {D:Sx}
end
structure SmrAt (w:World) (p q r:Nat) (S:Sh) (D:Sx) (M:Msg) (W:World):Prop where
 sm:SmAt w p q S D M W
 rs:SB8 W r zS zX
 ne:q<r
theorem SB8.all {W:World} {r:Nat} {T:Sh} {E:Sx} (h:SB8 W r T E):(W.cell? ⟨r,0,none⟩=some (.bool T.lv)/\W.cell? ⟨r,1,none⟩=some (.int .i64 T.lo)/\W.cell? ⟨r,2,none⟩=some (.int .i64 T.hi)/\W.cell? ⟨r,3,none⟩=some (.slice E.A T.cs.length E.c)/\W.cell? ⟨r,4,none⟩=some (.int .i64 T.hd)/\W.cell? ⟨r,5,none⟩=some (.int .i64 T.sz)/\W.cell? ⟨r,6,none⟩=some (.slice E.A2 T.l.length E.c2)/\W.cell? ⟨r,7,none⟩=some (.slice E.A3 T.h.length E.c3)/\r<W.heap.size)/\(W.frozen? ⟨r,0,none⟩=false/\W.frozen? ⟨r,1,none⟩=false/\W.frozen? ⟨r,2,none⟩=false/\W.frozen? ⟨r,3,none⟩=false/\W.frozen? ⟨r,4,none⟩=false/\W.frozen? ⟨r,5,none⟩=false/\W.frozen? ⟨r,6,none⟩=false/\W.frozen? ⟨r,7,none⟩=false):=⟨h.facts,h.free⟩
end Go.Proofs.YtkecnihgjepfeaaGreat
