/- What is proved here: shardqueuelaw15.SectionNew returns true for every input and leaves its arguments as they were. No condition. -/
import Derived.Test.YtakjpmbgapipjaaGreatJ49
import Derived.Test.YtakjpmbgapipjaaGreatJ50
import Derived.Test.YtakjpmbgapipjaaGreatJ46
import Derived.Test.YtakjpmbgapipjaaGreatJ38
import Derived.ProofKit
import Derived.OpenShut
import Derived.ChangeOld
import Derived.Deep.DeepCutAuto
import Derived.Deep.RegionHeld3
namespace Go.Proofs.YtakjpmbgapipjaaGreat
open Go.RowKit
set_option linter.unusedVariables false
set_option linter.unusedSimpArgs false
theorem ns15_up {w w' : World} {v:Value} {zs:List Int} (h:Ns w w.heap.size v zs) (hb:Below w.heap.size w w'):Ns w' w'.heap.size v zs:=by
 obtain ⟨A,c,e,hl,hm,hr,hz⟩:=h
 exact ⟨A,c,e,hl,hm,(hr.below hb).more hb.size,hz⟩
theorem Rb.grownO {W W' : World} {g q:Nat} {cs:List Value} (h:Rb W q cs) (hg:W.grownBy W' (some g)) (hne:q≠g):Rb W' q cs:=
 ⟨fun j v hv=>(hg.cell_far ⟨q,j,none⟩ h.lt (fun e=>hne (by injection e))).trans (h.c j v hv),fun j=>(hg.frozen_far ⟨q,j,none⟩ h.lt (fun e=>hne (by injection e))).trans (h.f j),Nat.lt_of_lt_of_le h.lt hg.size⟩
structure Bs15 (W:World) (g q:Nat) (s:Se) (X:Sex):Prop where
 rb:Rb W q (scl15 s X)
 se:SeR W W.heap.size s X
 off:ROff (s.rows X) g
 ne:q≠g
section
variable {W W' : World} {g q:Nat} {s:Se} {X:Sex}
theorem Bs15.up (h:Bs15 W g q s X) (hb:Below W.heap.size W W'):Bs15 W' g q s X:=⟨h.rb.up hb,h.se.up hb,h.off,h.ne⟩
theorem Bs15.grown (h:Bs15 W g q s X) (hg:W.grownBy W' (some g)):Bs15 W' g q s X:=⟨h.rb.grownO hg h.ne,h.se.grown hg h.off,h.off,h.ne⟩
theorem Bs15.next (h:Bs15 W g q s X) {k:Nat} (hb:Below W.heap.size W W') (hk:W.heap.size≤k):Bs15 W' k q s X:=⟨h.rb.up hb,h.se.up hb,h.se.r.offs hk,Nat.ne_of_lt (Nat.lt_of_lt_of_le h.rb.lt hk)⟩
theorem Bs15.start {w:World} (hn:RNw (s.rows X) w.heap.size) (hg:g<w.heap.size) (hs:SeR W W.heap.size s X) (hz:w.heap.size≤W.heap.size):Bs15 (stN15 (W.alloc (.cells #[.int .i64 0,.int .i64 0,.slice none 0 0,.int .i64 0,.int .i64 0,.int .i64 0,.int .i64 0,.int .i64 0,.int .i64 0,.int .i64 0,.int .i64 0,.slice none 0 0,.int .i64 0,.slice none 0 0,.slice none 0 0,.int .i64 0,.slice none 0 0,.slice none 0 0,.slice none 0 0,.int .i64 0,.slice none 0 0,.slice none 0 0,.slice none 0 0,.slice none 0 0,.int .i64 0,.slice none 0 0] 42)) W.heap.size 0 (scl15 s X)) g W.heap.size s X:=by
 have HR:=Rb.start W [.int .i64 0,.int .i64 0,.slice none 0 0,.int .i64 0,.int .i64 0,.int .i64 0,.int .i64 0,.int .i64 0,.int .i64 0,.int .i64 0,.int .i64 0,.slice none 0 0,.int .i64 0,.slice none 0 0,.slice none 0 0,.int .i64 0,.slice none 0 0,.slice none 0 0,.slice none 0 0,.int .i64 0,.slice none 0 0,.slice none 0 0,.slice none 0 0,.slice none 0 0,.int .i64 0,.slice none 0 0] 42
 have hal:=(Below.refl W.heap.size W).alloc (Nat.le_refl _) (.cells #[.int .i64 0,.int .i64 0,.slice none 0 0,.int .i64 0,.int .i64 0,.int .i64 0,.int .i64 0,.int .i64 0,.int .i64 0,.int .i64 0,.int .i64 0,.slice none 0 0,.int .i64 0,.slice none 0 0,.slice none 0 0,.int .i64 0,.slice none 0 0,.slice none 0 0,.slice none 0 0,.int .i64 0,.slice none 0 0,.slice none 0 0,.slice none 0 0,.slice none 0 0,.int .i64 0,.slice none 0 0] 42)
 refine ⟨HR.stN rfl,?_,hn.off hg,Nat.ne_of_gt (Nat.lt_of_lt_of_le hg hz)⟩
 rw [stN15_size]
 exact (hs.up hal).stN (hs.r.offs (Nat.le_refl _))
theorem bs15_bel:Below W.heap.size W (stN15 (W.alloc (.cells #[.int .i64 0,.int .i64 0,.slice none 0 0,.int .i64 0,.int .i64 0,.int .i64 0,.int .i64 0,.int .i64 0,.int .i64 0,.int .i64 0,.int .i64 0,.slice none 0 0,.int .i64 0,.slice none 0 0,.slice none 0 0,.int .i64 0,.slice none 0 0,.slice none 0 0,.slice none 0 0,.int .i64 0,.slice none 0 0,.slice none 0 0,.slice none 0 0,.slice none 0 0,.int .i64 0,.slice none 0 0] 42)) W.heap.size 0 (scl15 s X)):=stN15_below ((Below.refl W.heap.size W).alloc (Nat.le_refl _) (.cells #[.int .i64 0,.int .i64 0,.slice none 0 0,.int .i64 0,.int .i64 0,.int .i64 0,.int .i64 0,.int .i64 0,.int .i64 0,.int .i64 0,.int .i64 0,.slice none 0 0,.int .i64 0,.slice none 0 0,.slice none 0 0,.int .i64 0,.slice none 0 0,.slice none 0 0,.slice none 0 0,.int .i64 0,.slice none 0 0,.slice none 0 0,.slice none 0 0,.slice none 0 0,.int .i64 0,.slice none 0 0] 42)) (Nat.le_refl _) 0
theorem nws_small (cs:List Int) (lim:Int):(nwS15 cs lim).sh.length≤1000∧(nwS15 cs lim).o.sh.length≤1000∧(nwS15 cs lim).o.ed.length=0:=by
 unfold nwS15
 split <;> exact ⟨Nat.zero_le _,Nat.zero_le _,rfl⟩
end
set_option maxHeartbeats 8000000 in
set_option maxRecDepth 20000 in
theorem SectionNew_walk (w:World) (a1:Option Addr) (l1 c1:Nat) (zs:List Int) (hz:Ns w w.heap.size (.slice a1 l1 c1) zs) (lim:Int) (hlim:(Lit.int .i64 lim).wf=true) :
  Calls Tryz.prog 3 #[.slice a1 l1 c1,.int .i64 lim] w fun e w'=>e=.returned (.bool true)∧Below w.heap.size w w':=by
 have HAW:=Lh (fun W=>awake15_any W)
 clear hlim
 have hf:=Fl.of_ns hz
 obtain ⟨rfl,-,-⟩:=hf.len
 have HF:=Lh hf
 have HNZ:=Lh hz
 clear hz hf
 by_cases h20:(20:Int)<(zs.length:Int)
 ·clear HAW HNZ HF
  go_enter Tryz.func3,Tryz.ntmps3
  go_wp2
  go_ret
  exact ⟨rfl,Below.refl _ _⟩
 have HLE:=Lh (show zs.length≤4000 by omega)
 go_enter Tryz.func3,Tryz.ntmps3
 go_wp2_with fail
 refine (new_x a1 c1 zs w HNZ.out HLE.out).mono ?_
 rintro e w2 ⟨g,rfl,hs,hb⟩
 have HS:=Lh hs
 have HB:=Lh hb
 clear hs hb
 go_wp2_with fail
 refine (range_x w.heap.size g zs 0 w2 HS.out (-1) 7 (by omega) (by omega) (by omega)).mono ?_
 rintro e w3 ⟨rfl,hs,hg⟩
 have HB:=Lh (below_only HB.out hg HS.out.1 (Nat.le_refl _))
 have HS:=Lh hs
 clear hs hg
 generalize -1+srN (srV zs 0) (7 - -1+1)=x0 at*
 go_wp2_with fail
 refine (range_x w.heap.size g zs _ w3 HS.out 0 7 (by omega) (by omega) (by omega)).mono ?_
 rintro e w4 ⟨rfl,hs,hg⟩
 have HB:=Lh (below_only HB.out hg HS.out.1 (Nat.le_refl _))
 have HS:=Lh hs
 clear hs hg
 generalize 0+srN (srV zs (srK zs 0)) (7 - 0+1)=x1 at*
 have HG:=Lh HS.out.2.1
 go_upto_region 5 with (fail)
 have HSM:=Lh (show Rb (w4.alloc (.cells #[.int .i64 x0,.int .i64 x1] 3)) w4.heap.size (ics [x0,x1])∧w4.heap.size≠g from ⟨Rb.start w4 (ics [x0,x1]) 3,Nat.ne_of_gt HG.out⟩)
 have hal:=(Below.refl w4.heap.size w4).alloc (Nat.le_refl _) (.cells #[.int .i64 x0,.int .i64 x1] 3)
 have HB:=Lh (HB.out.trans (hal.mono HB.out.size))
 have HS:=Lh (HS.out.up hal)
 clear hal HG
 generalize hw5:w4.alloc (.cells #[.int .i64 x0,.int .i64 x1] 3)=w5 at*
 obtain ⟨r,hr⟩:∃ r,r=w4.heap.size:=⟨_,rfl⟩
 rw [←hr] at HSM ⊢
 clear hr hw5
 refine wp_region_list ?_
 refine wpList_plain rfl (fun K hK=>?_)
 go_simp
 refine hK _ _ ?_
 clear hK K
 try simp only [Act.put,List.setIfInBounds_toArray,List.set_cons_zero,List.set_cons_succ]
 refine wpList_plain rfl (fun K hK=>?_)
 go_simp
 refine hK _ _ ?_
 clear hK K
 try simp only [Act.put,List.setIfInBounds_toArray,List.set_cons_zero,List.set_cons_succ]
 refine wpList_plain rfl (fun K hK=>?_)
 go_simp
 go_at_call 8
 refine (unew15_any _ _ zs lim w5 (HF.out.up HB.out)).mono ?_
 rintro e w6 ⟨X1,rfl,hn,hs,hb⟩
 have HBOX:=Lh (Bs15.start hn HS.out.2.1 hs hb.size)
 have HBX:=Lh (hb.trans ((bs15_bel (W:=w6) (s:=(nwS15 zs lim)) (X:=X1)).mono hb.size))
 clear hn hs hb
 refine hK _ _ ?_
 clear hK K
 try simp only [Act.put,List.setIfInBounds_toArray,List.set_cons_zero,List.set_cons_succ]
 refine wpList_plain rfl (fun K hK=>?_)
 go_simp
 refine hK _ _ ?_
 clear hK K
 try simp only [Act.put,List.setIfInBounds_toArray,List.set_cons_zero,List.set_cons_succ]
 refine wpList_plain rfl (fun K hK=>?_)
 go_simp
 refine hK _ _ ?_
 clear hK K
 try simp only [Act.put,List.setIfInBounds_toArray,List.set_cons_zero,List.set_cons_succ]
 refine wpList_plain rfl (fun K hK=>?_)
 go_simp
 refine hK _ _ ?_
 clear hK K
 try simp only [Act.put,List.setIfInBounds_toArray,List.set_cons_zero,List.set_cons_succ]
 refine wpList_plain rfl (fun K hK=>?_)
 go_simp
 refine hK _ _ ?_
 clear hK K
 try simp only [Act.put,List.setIfInBounds_toArray,List.set_cons_zero,List.set_cons_succ]
 refine wpList_plain rfl (fun K hK=>?_)
 refine wp_store_st 42 _ _ rfl w6.heap.size [.int .i64 0,.int .i64 0,.slice none 0 0,.int .i64 0,.int .i64 0,.int .i64 0,.int .i64 0,.int .i64 0,.int .i64 0,.int .i64 0,.int .i64 0,.slice none 0 0,.int .i64 0,.slice none 0 0,.slice none 0 0,.int .i64 0,.slice none 0 0,.slice none 0 0,.slice none 0 0,.int .i64 0,.slice none 0 0,.slice none 0 0,.slice none 0 0,.slice none 0 0,.int .i64 0,.slice none 0 0] (scl15 (nwS15 zs lim) X1) rfl rfl (Rb.start w6 [.int .i64 0,.int .i64 0,.slice none 0 0,.int .i64 0,.int .i64 0,.int .i64 0,.int .i64 0,.int .i64 0,.int .i64 0,.int .i64 0,.int .i64 0,.slice none 0 0,.int .i64 0,.slice none 0 0,.slice none 0 0,.int .i64 0,.slice none 0 0,.slice none 0 0,.slice none 0 0,.int .i64 0,.slice none 0 0,.slice none 0 0,.slice none 0 0,.slice none 0 0,.int .i64 0,.slice none 0 0] 42) (scl15_len _ _) info_se (scl15_one _ _) ?_
 refine hK _ _ ?_
 clear hK K
 obtain ⟨q1,hq⟩:∃ q,q=w6.heap.size:=⟨_,rfl⟩
 rw [←hq] at HBOX HBX ⊢
 generalize stN15 (w6.alloc (.cells #[.int .i64 0,.int .i64 0,.slice none 0 0,.int .i64 0,.int .i64 0,.int .i64 0,.int .i64 0,.int .i64 0,.int .i64 0,.int .i64 0,.int .i64 0,.slice none 0 0,.int .i64 0,.slice none 0 0,.slice none 0 0,.int .i64 0,.slice none 0 0,.slice none 0 0,.slice none 0 0,.int .i64 0,.slice none 0 0,.slice none 0 0,.slice none 0 0,.slice none 0 0,.int .i64 0,.slice none 0 0] 42)) q1 0 (scl15 (nwS15 zs lim) X1)=y1 at*
 clear hq
 have HQ1:=Lh HBOX.out
 have HB:=Lh (HB.out.trans (HBX.out.mono HB.out.size))
 have HS:=Lh (HS.out.up HBX.out)
 have HSM:=Lh (And.intro (HSM.out.1.up HBX.out) HSM.out.2)
 clear HBOX HBX
 try simp only [Act.put,List.setIfInBounds_toArray,List.set_cons_zero,List.set_cons_succ]
 refine wpList_plain rfl (fun K hK=>?_)
 go_simp
 refine hK _ _ ?_
 clear hK K
 try simp only [Act.put,List.setIfInBounds_toArray,List.set_cons_zero,List.set_cons_succ]
 go_upto_region 6 with (fail)
 refine wp_region_list ?_
 refine wpList_plain rfl (fun K hK=>?_)
 go_simp
 refine hK _ _ ?_
 clear hK K
 try simp only [Act.put,List.setIfInBounds_toArray,List.set_cons_zero,List.set_cons_succ]
 refine wpList_plain rfl (fun K hK=>?_)
 go_simp
 refine hK _ _ ?_
 clear hK K
 try simp only [Act.put,List.setIfInBounds_toArray,List.set_cons_zero,List.set_cons_succ]
 refine wpList_plain rfl (fun K hK=>?_)
 go_simp
 go_at_call 9
 refine (rnew15_any _ _ zs lim y1 (HF.out.up HB.out)).mono ?_
 rintro e w7 ⟨X2,rfl,hn,hs,hb⟩
 have HBOX:=Lh (Bs15.start hn HS.out.2.1 hs hb.size)
 have HBX:=Lh (hb.trans ((bs15_bel (W:=w7) (s:=(nwS15 zs lim)) (X:=X2)).mono hb.size))
 clear hn hs hb
 refine hK _ _ ?_
 clear hK K
 try simp only [Act.put,List.setIfInBounds_toArray,List.set_cons_zero,List.set_cons_succ]
 refine wpList_plain rfl (fun K hK=>?_)
 go_simp
 refine hK _ _ ?_
 clear hK K
 try simp only [Act.put,List.setIfInBounds_toArray,List.set_cons_zero,List.set_cons_succ]
 refine wpList_plain rfl (fun K hK=>?_)
 go_simp
 refine hK _ _ ?_
 clear hK K
 try simp only [Act.put,List.setIfInBounds_toArray,List.set_cons_zero,List.set_cons_succ]
 refine wpList_plain rfl (fun K hK=>?_)
 go_simp
 refine hK _ _ ?_
 clear hK K
 try simp only [Act.put,List.setIfInBounds_toArray,List.set_cons_zero,List.set_cons_succ]
 refine wpList_plain rfl (fun K hK=>?_)
 go_simp
 refine hK _ _ ?_
 clear hK K
 try simp only [Act.put,List.setIfInBounds_toArray,List.set_cons_zero,List.set_cons_succ]
 refine wpList_plain rfl (fun K hK=>?_)
 refine wp_store_st 42 _ _ rfl w7.heap.size [.int .i64 0,.int .i64 0,.slice none 0 0,.int .i64 0,.int .i64 0,.int .i64 0,.int .i64 0,.int .i64 0,.int .i64 0,.int .i64 0,.int .i64 0,.slice none 0 0,.int .i64 0,.slice none 0 0,.slice none 0 0,.int .i64 0,.slice none 0 0,.slice none 0 0,.slice none 0 0,.int .i64 0,.slice none 0 0,.slice none 0 0,.slice none 0 0,.slice none 0 0,.int .i64 0,.slice none 0 0] (scl15 (nwS15 zs lim) X2) rfl rfl (Rb.start w7 [.int .i64 0,.int .i64 0,.slice none 0 0,.int .i64 0,.int .i64 0,.int .i64 0,.int .i64 0,.int .i64 0,.int .i64 0,.int .i64 0,.int .i64 0,.slice none 0 0,.int .i64 0,.slice none 0 0,.slice none 0 0,.int .i64 0,.slice none 0 0,.slice none 0 0,.slice none 0 0,.int .i64 0,.slice none 0 0,.slice none 0 0,.slice none 0 0,.slice none 0 0,.int .i64 0,.slice none 0 0] 42) (scl15_len _ _) info_se (scl15_one _ _) ?_
 refine hK _ _ ?_
 clear hK K
 obtain ⟨q2,hq⟩:∃ q,q=w7.heap.size:=⟨_,rfl⟩
 rw [←hq] at HBOX HBX ⊢
 generalize stN15 (w7.alloc (.cells #[.int .i64 0,.int .i64 0,.slice none 0 0,.int .i64 0,.int .i64 0,.int .i64 0,.int .i64 0,.int .i64 0,.int .i64 0,.int .i64 0,.int .i64 0,.slice none 0 0,.int .i64 0,.slice none 0 0,.slice none 0 0,.int .i64 0,.slice none 0 0,.slice none 0 0,.slice none 0 0,.int .i64 0,.slice none 0 0,.slice none 0 0,.slice none 0 0,.slice none 0 0,.int .i64 0,.slice none 0 0] 42)) q2 0 (scl15 (nwS15 zs lim) X2)=y2 at*
 clear hq
 have HQ2:=Lh HBOX.out
 have HB:=Lh (HB.out.trans (HBX.out.mono HB.out.size))
 have HS:=Lh (HS.out.up HBX.out)
 have HQ1:=Lh (HQ1.out.up HBX.out)
 have HSM:=Lh (And.intro (HSM.out.1.up HBX.out) HSM.out.2)
 clear HBOX HBX
 try simp only [Act.put,List.setIfInBounds_toArray,List.set_cons_zero,List.set_cons_succ]
 refine wpList_plain rfl (fun K hK=>?_)
 go_simp
 refine hK _ _ ?_
 clear hK K
 try simp only [Act.put,List.setIfInBounds_toArray,List.set_cons_zero,List.set_cons_succ]
 go_upto_region 7 with (fail)
 refine wp_region_list ?_
 refine wpList_plain rfl (fun K hK=>?_)
 go_simp
 refine hK _ _ ?_
 clear hK K
 try simp only [Act.put,List.setIfInBounds_toArray,List.set_cons_zero,List.set_cons_succ]
 refine wpList_plain rfl (fun K hK=>?_)
 go_simp
 refine hK _ _ ?_
 clear hK K
 try simp only [Act.put,List.setIfInBounds_toArray,List.set_cons_zero,List.set_cons_succ]
 refine wpList_plain rfl (fun K hK=>?_)
 go_simp
 go_at_call 7
 refine (range_x w.heap.size _ zs _ y2 HS.out 0 9 (by omega) (by omega) (by omega)).mono ?_
 rintro e w8 ⟨rfl,hs,hg⟩
 have HB:=Lh (below_only HB.out hg HS.out.1 (Nat.le_refl _))
 have HQ1:=Lh (HQ1.out.grown hg)
 have HQ2:=Lh (HQ2.out.grown hg)
 have HSM:=Lh (And.intro (HSM.out.1.grownO hg HSM.out.2) HSM.out.2)
 have HS:=Lh hs
 clear hs hg
 have HV:=Lh (srV_two zs)
 rw [HV.out]
 generalize hx2:0+srN (srV zs 2) (9 - 0+1)=x2
 have HX2:=Lh hx2
 clear hx2 HV
 refine hK _ _ ?_
 clear hK K
 try simp only [Act.put,List.setIfInBounds_toArray,List.set_cons_zero,List.set_cons_succ]
 refine wpList_plain rfl (fun K hK=>?_)
 go_simp
 go_at_call 8
 refine (unew15_any _ _ [x0,x1] x2 w8 (HSM.out.1.fl (F:=[x0,x1]) (Nat.le_refl 2) (by unfold maxLen;decide))).mono ?_
 rintro e w9 ⟨X3,rfl,hn,hs,hb⟩
 have HBOX:=Lh (Bs15.start hn HS.out.2.1 hs hb.size)
 have HBX:=Lh (hb.trans ((bs15_bel (W:=w9) (s:=(nwS15 [x0,x1] x2)) (X:=X3)).mono hb.size))
 clear hn hs hb
 refine hK _ _ ?_
 clear hK K
 try simp only [Act.put,List.setIfInBounds_toArray,List.set_cons_zero,List.set_cons_succ]
 refine wpList_plain rfl (fun K hK=>?_)
 go_simp
 refine hK _ _ ?_
 clear hK K
 try simp only [Act.put,List.setIfInBounds_toArray,List.set_cons_zero,List.set_cons_succ]
 refine wpList_plain rfl (fun K hK=>?_)
 go_simp
 refine hK _ _ ?_
 clear hK K
 try simp only [Act.put,List.setIfInBounds_toArray,List.set_cons_zero,List.set_cons_succ]
 refine wpList_plain rfl (fun K hK=>?_)
 go_simp
 refine hK _ _ ?_
 clear hK K
 try simp only [Act.put,List.setIfInBounds_toArray,List.set_cons_zero,List.set_cons_succ]
 refine wpList_plain rfl (fun K hK=>?_)
 go_simp
 refine hK _ _ ?_
 clear hK K
 try simp only [Act.put,List.setIfInBounds_toArray,List.set_cons_zero,List.set_cons_succ]
 refine wpList_plain rfl (fun K hK=>?_)
 refine wp_store_st 42 _ _ rfl w9.heap.size [.int .i64 0,.int .i64 0,.slice none 0 0,.int .i64 0,.int .i64 0,.int .i64 0,.int .i64 0,.int .i64 0,.int .i64 0,.int .i64 0,.int .i64 0,.slice none 0 0,.int .i64 0,.slice none 0 0,.slice none 0 0,.int .i64 0,.slice none 0 0,.slice none 0 0,.slice none 0 0,.int .i64 0,.slice none 0 0,.slice none 0 0,.slice none 0 0,.slice none 0 0,.int .i64 0,.slice none 0 0] (scl15 (nwS15 [x0,x1] x2) X3) rfl rfl (Rb.start w9 [.int .i64 0,.int .i64 0,.slice none 0 0,.int .i64 0,.int .i64 0,.int .i64 0,.int .i64 0,.int .i64 0,.int .i64 0,.int .i64 0,.int .i64 0,.slice none 0 0,.int .i64 0,.slice none 0 0,.slice none 0 0,.int .i64 0,.slice none 0 0,.slice none 0 0,.slice none 0 0,.int .i64 0,.slice none 0 0,.slice none 0 0,.slice none 0 0,.slice none 0 0,.int .i64 0,.slice none 0 0] 42) (scl15_len _ _) info_se (scl15_one _ _) ?_
 refine hK _ _ ?_
 clear hK K
 obtain ⟨q3,hq⟩:∃ q,q=w9.heap.size:=⟨_,rfl⟩
 rw [←hq] at HBOX HBX ⊢
 generalize stN15 (w9.alloc (.cells #[.int .i64 0,.int .i64 0,.slice none 0 0,.int .i64 0,.int .i64 0,.int .i64 0,.int .i64 0,.int .i64 0,.int .i64 0,.int .i64 0,.int .i64 0,.slice none 0 0,.int .i64 0,.slice none 0 0,.slice none 0 0,.int .i64 0,.slice none 0 0,.slice none 0 0,.slice none 0 0,.int .i64 0,.slice none 0 0,.slice none 0 0,.slice none 0 0,.slice none 0 0,.int .i64 0,.slice none 0 0] 42)) q3 0 (scl15 (nwS15 [x0,x1] x2) X3)=y3 at*
 clear hq
 have HQ3:=Lh HBOX.out
 have HB:=Lh (HB.out.trans (HBX.out.mono HB.out.size))
 have HS:=Lh (HS.out.up HBX.out)
 have HQ1:=Lh (HQ1.out.up HBX.out)
 have HQ2:=Lh (HQ2.out.up HBX.out)
 have HSM:=Lh (And.intro (HSM.out.1.up HBX.out) HSM.out.2)
 clear HBOX HBX
 try simp only [Act.put,List.setIfInBounds_toArray,List.set_cons_zero,List.set_cons_succ]
 refine wpList_plain rfl (fun K hK=>?_)
 go_simp
 refine hK _ _ ?_
 clear hK K
 try simp only [Act.put,List.setIfInBounds_toArray,List.set_cons_zero,List.set_cons_succ]
 clear HS
 go_upto_region 8 with (fail)
 go_wp2_with fail
 refine (new_x a1 c1 zs y3 (ns15_up HNZ.out HB.out) HLE.out).mono ?_
 rintro e v1 ⟨g2,rfl,hs,hb⟩
 have HQ1:=Lh (HQ1.out.next hb hs.1)
 have HQ2:=Lh (HQ2.out.next hb hs.1)
 have HQ3:=Lh (HQ3.out.next hb hs.1)
 have HSM:=Lh (And.intro (HSM.out.1.up hb) (Nat.ne_of_lt (Nat.lt_of_lt_of_le HSM.out.1.lt hs.1)))
 have HGE:=Lh (Nat.le_trans HB.out.size hs.1)
 have HS:=Lh hs
 have HB:=Lh (HB.out.trans (hb.mono HB.out.size))
 clear hs hb
 obtain ⟨gB,gl,-,-,A9,c9,g0,g1c,g1f,-,-⟩:=HS.out
 go_upto_region 10 with (fail)
 have hg:v1.grownBy (v1.setCell ⟨g2,1,none⟩ (.int .i64 2)) (some g2):=only_set (World.grownBy.refl _ _) (.inl rfl) _
 have HS:=Lh (show SrE (v1.setCell ⟨g2,1,none⟩ (.int .i64 2)) y3.heap.size g2 zs 2 from HS.out.put (m:=2) (by omega))
 have HB:=Lh (below_only HB.out hg HGE.out (Nat.le_refl _))
 have HQ1:=Lh (HQ1.out.grown hg)
 have HQ2:=Lh (HQ2.out.grown hg)
 have HQ3:=Lh (HQ3.out.grown hg)
 have HSM:=Lh (And.intro (HSM.out.1.grownO hg HSM.out.2) HSM.out.2)
 clear gB gl g0 g1c g1f hg
 generalize v1.setCell ⟨g2,1,none⟩ (.int .i64 2)=v2 at*
 refine wp_region_list ?_
 refine wpList_plain rfl (fun K hK=>?_)
 go_simp
 refine hK _ _ ?_
 clear hK K
 try simp only [Act.put,List.setIfInBounds_toArray,List.set_cons_zero,List.set_cons_succ]
 refine wpList_plain rfl (fun K hK=>?_)
 go_simp
 refine hK _ _ ?_
 clear hK K
 try simp only [Act.put,List.setIfInBounds_toArray,List.set_cons_zero,List.set_cons_succ]
 refine wpList_plain rfl (fun K hK=>?_)
 go_simp
 go_at_call 7
 refine (range_x _ _ zs _ v2 HS.out 0 9 (by omega) (by omega) (by omega)).mono ?_
 rintro e v3 ⟨rfl,hs,hg⟩
 have HB:=Lh (below_only HB.out hg HGE.out (Nat.le_refl _))
 have HQ1:=Lh (HQ1.out.grown hg)
 have HQ2:=Lh (HQ2.out.grown hg)
 have HQ3:=Lh (HQ3.out.grown hg)
 have HSM:=Lh (And.intro (HSM.out.1.grownO hg HSM.out.2) HSM.out.2)
 have HS:=Lh hs
 clear hs hg
 rw [HX2.out]
 refine hK _ _ ?_
 clear hK K
 try simp only [Act.put,List.setIfInBounds_toArray,List.set_cons_zero,List.set_cons_succ]
 refine wpList_plain rfl (fun K hK=>?_)
 go_simp
 go_at_call 9
 refine (rnew15_any _ _ [x0,x1] x2 v3 (HSM.out.1.fl (F:=[x0,x1]) (Nat.le_refl 2) (by unfold maxLen;decide))).mono ?_
 rintro e v4 ⟨X4,rfl,hn,hs,hb⟩
 have HBOX:=Lh (Bs15.start hn HS.out.2.1 hs hb.size)
 have HBX:=Lh (hb.trans ((bs15_bel (W:=v4) (s:=(nwS15 [x0,x1] x2)) (X:=X4)).mono hb.size))
 clear hn hs hb
 refine hK _ _ ?_
 clear hK K
 try simp only [Act.put,List.setIfInBounds_toArray,List.set_cons_zero,List.set_cons_succ]
 refine wpList_plain rfl (fun K hK=>?_)
 go_simp
 refine hK _ _ ?_
 clear hK K
 try simp only [Act.put,List.setIfInBounds_toArray,List.set_cons_zero,List.set_cons_succ]
 refine wpList_plain rfl (fun K hK=>?_)
 go_simp
 refine hK _ _ ?_
 clear hK K
 try simp only [Act.put,List.setIfInBounds_toArray,List.set_cons_zero,List.set_cons_succ]
 refine wpList_plain rfl (fun K hK=>?_)
 go_simp
 refine hK _ _ ?_
 clear hK K
 try simp only [Act.put,List.setIfInBounds_toArray,List.set_cons_zero,List.set_cons_succ]
 refine wpList_plain rfl (fun K hK=>?_)
 go_simp
 refine hK _ _ ?_
 clear hK K
 try simp only [Act.put,List.setIfInBounds_toArray,List.set_cons_zero,List.set_cons_succ]
 refine wpList_plain rfl (fun K hK=>?_)
 refine wp_store_st 42 _ _ rfl v4.heap.size [.int .i64 0,.int .i64 0,.slice none 0 0,.int .i64 0,.int .i64 0,.int .i64 0,.int .i64 0,.int .i64 0,.int .i64 0,.int .i64 0,.int .i64 0,.slice none 0 0,.int .i64 0,.slice none 0 0,.slice none 0 0,.int .i64 0,.slice none 0 0,.slice none 0 0,.slice none 0 0,.int .i64 0,.slice none 0 0,.slice none 0 0,.slice none 0 0,.slice none 0 0,.int .i64 0,.slice none 0 0] (scl15 (nwS15 [x0,x1] x2) X4) rfl rfl (Rb.start v4 [.int .i64 0,.int .i64 0,.slice none 0 0,.int .i64 0,.int .i64 0,.int .i64 0,.int .i64 0,.int .i64 0,.int .i64 0,.int .i64 0,.int .i64 0,.slice none 0 0,.int .i64 0,.slice none 0 0,.slice none 0 0,.int .i64 0,.slice none 0 0,.slice none 0 0,.slice none 0 0,.int .i64 0,.slice none 0 0,.slice none 0 0,.slice none 0 0,.slice none 0 0,.int .i64 0,.slice none 0 0] 42) (scl15_len _ _) info_se (scl15_one _ _) ?_
 refine hK _ _ ?_
 clear hK K
 obtain ⟨q4,hq⟩:∃ q,q=v4.heap.size:=⟨_,rfl⟩
 rw [←hq] at HBOX HBX ⊢
 generalize stN15 (v4.alloc (.cells #[.int .i64 0,.int .i64 0,.slice none 0 0,.int .i64 0,.int .i64 0,.int .i64 0,.int .i64 0,.int .i64 0,.int .i64 0,.int .i64 0,.int .i64 0,.slice none 0 0,.int .i64 0,.slice none 0 0,.slice none 0 0,.int .i64 0,.slice none 0 0,.slice none 0 0,.slice none 0 0,.int .i64 0,.slice none 0 0,.slice none 0 0,.slice none 0 0,.slice none 0 0,.int .i64 0,.slice none 0 0] 42)) q4 0 (scl15 (nwS15 [x0,x1] x2) X4)=y4 at*
 clear hq
 have HQ4:=Lh HBOX.out
 have HB:=Lh (HB.out.trans (HBX.out.mono HB.out.size))
 have HS:=Lh (HS.out.up HBX.out)
 have HQ1:=Lh (HQ1.out.up HBX.out)
 have HQ2:=Lh (HQ2.out.up HBX.out)
 have HQ3:=Lh (HQ3.out.up HBX.out)
 have HSM:=Lh (And.intro (HSM.out.1.up HBX.out) HSM.out.2)
 clear HBOX HBX
 try simp only [Act.put,List.setIfInBounds_toArray,List.set_cons_zero,List.set_cons_succ]
 refine wpList_plain rfl (fun K hK=>?_)
 go_simp
 refine hK _ _ ?_
 clear hK K
 try simp only [Act.put,List.setIfInBounds_toArray,List.set_cons_zero,List.set_cons_succ]
 clear HS HSM HGE HX2
 have HE1:=Lh (nws_small zs lim)
 have HE2:=Lh (nws_small [x0,x1] x2)
 generalize nwS15 zs lim=s1 at*
 generalize nwS15 [x0,x1] x2=s2 at*
 generalize nwE15 zs lim=e1 at*
 generalize nwE15 [x0,x1] x2=e2 at*
 go_upto_region 11 with (fail)
 refine wp_region_list ?_
 refine wpList_plain rfl (fun K hK=>?_)
 go_simp
 refine hK _ _ ?_
 clear hK K
 try simp only [Act.put,List.setIfInBounds_toArray,List.set_cons_zero,List.set_cons_succ]
 refine wpList_plain rfl (fun K hK=>?_)
 go_simp
 refine hK _ _ ?_
 clear hK K
 try simp only [Act.put,List.setIfInBounds_toArray,List.set_cons_zero,List.set_cons_succ]
 refine wpList_plain rfl (fun K hK=>?_)
 go_simp
 refine hK _ _ ?_
 clear hK K
 try simp only [Act.put,List.setIfInBounds_toArray,List.set_cons_zero,List.set_cons_succ]
 refine wpList_plain rfl (fun K hK=>?_)
 go_simp
 refine hK _ _ ?_
 clear hK K
 try simp only [Act.put,List.setIfInBounds_toArray,List.set_cons_zero,List.set_cons_succ]
 refine BigFrame.wpList_want (by first | rfl | kernel_rfl) (fun K hK=>?_)
 go_simp
 refine hK _ _ ?_
 clear hK K
 try simp only [Act.put,List.setIfInBounds_toArray,List.set_cons_zero,List.set_cons_succ]
 refine BigFrame.wpList_want (by first | rfl | kernel_rfl) (fun K hK=>?_)
 go_simp
 refine hK _ _ ?_
 clear hK K
 try simp only [Act.put,List.setIfInBounds_toArray,List.set_cons_zero,List.set_cons_succ]
 refine BigFrame.wpList_want (by first | rfl | kernel_rfl) (fun K hK=>?_)
 go_simp
 refine hK _ _ ?_
 clear hK K
 try simp only [Act.put,List.setIfInBounds_toArray,List.set_cons_zero,List.set_cons_succ]
 refine wpList_plain rfl (fun K hK=>?_)
 go_simp
 refine hK _ _ ?_
 clear hK K
 try simp only [Act.put,List.setIfInBounds_toArray,List.set_cons_zero,List.set_cons_succ]
 refine wpList_plain rfl (fun K hK=>?_)
 go_simp
 refine hK _ _ ?_
 clear hK K
 try simp only [Act.put,List.setIfInBounds_toArray,List.set_cons_zero,List.set_cons_succ]
 refine BigFrame.wpList_want (by first | rfl | kernel_rfl) (fun K hK=>?_)
 refine wp_load_mid 42 _ rfl q1 0 rfl (scl15 s1 X1) _ HQ1.out.rb.range (Tryz.underlying42) rfl info_se ?_
 refine hK _ _ ?_
 clear hK K
 try simp only [Act.put,List.setIfInBounds_toArray,List.set_cons_zero,List.set_cons_succ]
 refine BigFrame.wpList_want (by first | rfl | kernel_rfl) (fun K hK=>?_)
 refine wp_load_mid 42 _ rfl q2 0 rfl (scl15 s1 X2) _ HQ2.out.rb.range (Tryz.underlying42) rfl info_se ?_
 refine hK _ _ ?_
 clear hK K
 try simp only [Act.put,List.setIfInBounds_toArray,List.set_cons_zero,List.set_cons_succ]
 refine BigFrame.wpList_want (by first | rfl | kernel_rfl) (fun K hK=>?_)
 go_simp
 go_at_call 10
 refine (rsame15_yes s1 X1 X2 _ HQ1.out.se HQ2.out.se HE1.out.1 HE1.out.2.1 HE1.out.2.2).mono ?_
 rintro e v5 ⟨rfl,hb⟩
 have HQ3:=Lh (HQ3.out.up hb)
 have HQ4:=Lh (HQ4.out.up hb)
 have HB:=Lh (HB.out.trans (hb.mono HB.out.size))
 clear hb
 refine hK _ _ ?_
 clear hK K
 try simp only [Act.put,List.setIfInBounds_toArray,List.set_cons_zero,List.set_cons_succ]
 refine wpList_plain rfl (fun K hK=>?_)
 go_simp
 refine hK _ _ ?_
 clear hK K
 try simp only [Act.put,List.setIfInBounds_toArray,List.set_cons_zero,List.set_cons_succ]
 refine wpList_plain rfl (fun K hK=>?_)
 go_simp
 refine hK _ _ ?_
 clear hK K
 try simp only [Act.put,List.setIfInBounds_toArray,List.set_cons_zero,List.set_cons_succ]
 refine BigFrame.wpList_want (by first | rfl | kernel_rfl) (fun K hK=>?_)
 refine wp_load_mid 42 _ rfl q3 0 rfl (scl15 s2 X3) _ HQ3.out.rb.range (Tryz.underlying42) rfl info_se ?_
 refine hK _ _ ?_
 clear hK K
 try simp only [Act.put,List.setIfInBounds_toArray,List.set_cons_zero,List.set_cons_succ]
 refine BigFrame.wpList_want (by first | rfl | kernel_rfl) (fun K hK=>?_)
 refine wp_load_mid 42 _ rfl q4 0 rfl (scl15 s2 X4) _ HQ4.out.rb.range (Tryz.underlying42) rfl info_se ?_
 refine hK _ _ ?_
 clear hK K
 try simp only [Act.put,List.setIfInBounds_toArray,List.set_cons_zero,List.set_cons_succ]
 refine BigFrame.wpList_want (by first | rfl | kernel_rfl) (fun K hK=>?_)
 go_simp
 go_at_call 10
 refine (rsame15_yes s2 X3 X4 _ HQ3.out.se HQ4.out.se HE2.out.1 HE2.out.2.1 HE2.out.2.2).mono ?_
 rintro e v6 ⟨rfl,hb⟩
 have HB:=Lh (HB.out.trans (hb.mono HB.out.size))
 clear hb
 refine hK _ _ ?_
 clear hK K
 try simp only [Act.put,List.setIfInBounds_toArray,List.set_cons_zero,List.set_cons_succ]
 refine wpList_plain rfl (fun K hK=>?_)
 go_simp
 refine hK _ _ ?_
 clear hK K
 try simp only [Act.put,List.setIfInBounds_toArray,List.set_cons_zero,List.set_cons_succ]
 refine wpList_plain rfl (fun K hK=>?_)
 go_simp
 refine hK _ _ ?_
 clear hK K
 try simp only [Act.put,List.setIfInBounds_toArray,List.set_cons_zero,List.set_cons_succ]
 refine BigFrame.wpList_want (by first | rfl | kernel_rfl) (fun K hK=>?_)
 go_simp
 go_at_call 11
 refine (HAW.out _).mono ?_
 rintro e v7 ⟨rfl,hb⟩
 have HB:=Lh (HB.out.trans (hb.mono HB.out.size))
 clear hb
 refine hK _ _ ?_
 clear hK K
 try simp only [Act.put,List.setIfInBounds_toArray,List.set_cons_zero,List.set_cons_succ]
 refine wpList_plain rfl (fun K hK=>?_)
 go_simp
 refine hK _ _ ?_
 clear hK K
 try simp only [Act.put,List.setIfInBounds_toArray,List.set_cons_zero,List.set_cons_succ]
 refine wpList_plain rfl (fun K hK=>?_)
 go_simp
 refine hK _ _ ?_
 clear hK K
 try simp only [Act.put,List.setIfInBounds_toArray,List.set_cons_zero,List.set_cons_succ]
 go_wp2
 go_ret
 exact ⟨rfl,HB.out⟩
/-! The row's step, as the guide's shell has it. -/
namespace sectionNew
open Go.ChangeShapes Go.WideShapes Go.ChangeAt
open Go.ChangeMaps (open_string shut_string)
theorem own:ownKnob Tryz.prog.godebug=none:=by kernel_rfl
theorem laidOut:laidOutB Tryz.prog=true:=by kernel_rfl
set_option maxRecDepth 100000 in
theorem lifted (os:Os) (started:os.Started) (H:Type) (enc:TypeId×Value→H) :
  ReturnsInHanded {} Tryz.checked os 3 .any (Rows.sectionNewSpec.pre6 enc Tryz.prog Tryz.f3 Rows.sectionNewRow.domain false) (Rows.sectionNewSpec.post enc Tryz.prog Tryz.f3 false true false false):=by
 refine returnsInHanded_of_change (C:=Tryz.checked) own started (by kernel_rfl) Tryz.func3
  (ChangeSpec.witness6 (enc:=enc) (C:=Tryz.checked) false ⟨#[],#[.slice none 0 0,.int .i64 0],[]⟩ 8 (by kernel_rfl) (by kernel_rfl) (by kernel_rfl) (by kernel_rfl)) ?_
 intro W base args ds gs before hval0 hW hcnd _
 have hval:∀ (j:Nat) t v,Tryz.f3.params[j]? = some t→args[j]? = some v→Value.okWide Tryz.prog W .any base t v:=hval0
 have hW':=hW
 obtain ⟨p,q,hA0,hV,rfl,hfz,hnd⟩:=hW
 have hA:DataW.TrodAll enc Tryz.prog W 0 (fun _=>true) true Tryz.f3.params.toList args.toList ds p:=hA0
 rw [Tryz.params3] at hA hval
 obtain ⟨v0,vs0,d0,ds0,p0,q0,hargs,rfl,rfl,h0,r0⟩:=trodAll_cons hA
 obtain ⟨v1,vs1,d1,ds1,p1,q1,rfl,rfl,rfl,h1,r1⟩:=trodAll_cons r0
 obtain ⟨rfl,rfl,rfl⟩:=trodAll_nil r1
 obtain rfl:args = #[v0,v1]:=by cases args;simp_all
 obtain ⟨rfl,rfl⟩:=trodVars_none hV
 obtain ⟨a0,len0,cap0,rfl⟩:=okWide_slice Tryz.underlying22 (hval 0 22 v0 rfl rfl)
 have k0:=h0
 have lt0:∀ x∈p0,x.block<W.heap.size:=by obtain ⟨m,hm⟩:=k0;exact DataW.trod_lt m _ _ _ hm
 obtain ⟨z0,w0⟩:∃ zs,Ns W W.heap.size (.slice a0 len0 cap0) zs:=by
  obtain ⟨fuel,hf⟩:=h0
  rcases open_ints Tryz.underlying22 Tryz.underlying3 (by kernel_rfl) hf with ⟨hcs,_⟩ | ⟨x,l,c,zs,hcs,_,hl,hm,hz,_,hcell,hwz⟩
  ·simp [Value.cells] at hcs
   obtain ⟨rfl,rfl,rfl⟩:=hcs
   exact ⟨[],Ns.nil⟩
  ·simp [Value.cells] at hcs
   obtain ⟨rfl,rfl,rfl⟩:=hcs
   exact Ns.of_cells hl hm (by simpa using hz) hcell hwz
 obtain ⟨a1,rfl,rfl,rfl,w1⟩:=open_int Tryz.underlying3 (hval 1 3 v1 rfl rfl) h1
 clear hA0 hval0
 refine (SectionNew_walk W a0 len0 cap0 z0 w0 a1 w1).mono fun e W' ⟨he,bel⟩=>?_
 subst he
 exact ⟨_,rfl,_,_,_,[],_,[],hW',trodAll_mk1 (shut_bool Tryz.underlying4 _),(trodAll_cons_mk (Below.trod laidOut (by kernel_rfl) (of_decide_eq_true (by kernel_rfl)) k0 bel lt0) (trodAll_cons_mk (shut_int Tryz.underlying3 w1) trodAll_mk0)),rfl,bel.frame _,fun h=>by cases h⟩
theorem over:Rows.sectionNewRow.holds Tryz.pinned (OpenSpec.ofChange Rows.sectionNewSpec):=
 OpenClaim.holds_of_wide 3 Tryz.f3 rfl rfl rfl rfl rfl rfl rfl ⟨rfl,rfl,rfl,rfl,rfl⟩ rfl rfl rfl rfl rfl (by kernel_rfl) Tryz.func3 (by kernel_rfl)
  (of_decide_eq_true (by kernel_rfl)) (by unfold Func.isWrapper;first | (rw [if_pos (by decide +kernel)];kernel_rfl) | (rw [if_neg (by decide +kernel)];exact ⟨rfl,rfl⟩))
  (fun os started H enc _=>lifted os started H enc)
theorem proved:Rows.SectionNewSaid:=over
#print axioms proved
end sectionNew
end Go.Proofs.YtakjpmbgapipjaaGreat
