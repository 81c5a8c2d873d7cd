/- What is proved here: parts of the proof: Uad. -/
import Derived.Test.YtkecnihgjepfeaaGreatJ49
namespace Go.Proofs.YtkecnihgjepfeaaGreat
open Go.RowKit
set_option linter.unusedVariables false
set_option linter.unusedSimpArgs false
set_option maxHeartbeats 8000000
set_option maxRecDepth 20000
structure Bx15 (w:World) (u1 u3:Nat) (a:Ar) (Y:Ax) (s:Se) (X:Sex) (W:World):Prop where
 r1:Rb W u1 (acl15 a Y)
 r3:Rb W u3 (scl15 s X)
 ar:AR W W.heap.size a Y
 se:SeR W W.heap.size s X
 oa:AOff a Y u1/\AOff a Y u3
 os:ROff (s.rows X) u1/\ROff (s.rows X) u3
 ne:w.heap.size<=u1/\w.heap.size<=u3/\u1≠u3
 bel:Below w.heap.size w W
section
variable {w W W' : World} {u1 u3:Nat} {a a' : Ar} {Y Y' : Ax} {s s' : Se} {X X' : Sex}
theorem Bx15.up (h:Bx15 w u1 u3 a Y s X W) (hb:Below W.heap.size W W'):Bx15 w u1 u3 a Y s X W':=⟨h.r1.up hb,h.r3.up hb,h.ar.up hb,h.se.up hb,h.oa,h.os,h.ne,h.bel.trans (hb.mono h.bel.size)⟩
theorem Bx15.sto {u o:Nat} {vs:List Value} (h:Bx15 w u1 u3 a Y s X W) (h1:u≠u1) (h3:u≠u3) (oa:AOff a Y u) (os:ROff (s.rows X) u) (hu:w.heap.size<=u):Bx15 w u1 u3 a Y s X (stN15 W u o vs):=by
 have e:(stN15 W u o vs).heap.size=W.heap.size:=stN15_size o
 refine ⟨h.r1.stNo h1 o,h.r3.stNo h3 o,?_,?_,h.oa,h.os,h.ne,stN15_below h.bel hu o⟩
 ·rw [e];exact h.ar.stN15 oa o
 ·rw [e];exact h.se.stN os
theorem Bx15.putS (h:Bx15 w u1 u3 a Y s X W) (hs:SeR W W.heap.size s' X') (ho:ROff (s'.rows X') u1/\ROff (s'.rows X') u3):Bx15 w u1 u3 a Y s' X' (stN15 W u3 0 (scl15 s' X')):=by
 have e:(stN15 W u3 0 (scl15 s' X')).heap.size=W.heap.size:=stN15_size 0
 refine ⟨h.r1.stNo (fun e=>h.ne.2.2 e.symm) 0,h.r3.stN rfl,?_,?_,h.oa,ho,h.ne,stN15_below h.bel h.ne.2.1 0⟩
 ·rw [e];exact h.ar.stN15 h.oa.2 0
 ·rw [e];exact hs.stN ho.2
theorem Bx15.putA (h:Bx15 w u1 u3 a Y s X W) (hs:AR W W.heap.size a' Y') (ho:AOff a' Y' u1/\AOff a' Y' u3):Bx15 w u1 u3 a' Y' s X (stN15 W u1 0 (acl15 a' Y')):=by
 have e:(stN15 W u1 0 (acl15 a' Y')).heap.size=W.heap.size:=stN15_size 0
 refine ⟨h.r1.stN rfl,h.r3.stNo h.ne.2.2 0,?_,?_,ho,h.os,h.ne,stN15_below h.bel h.ne.1 0⟩
 ·rw [e];exact hs.stN15 ho.1 0
 ·rw [e];exact h.se.stN h.os.1
end
theorem awake15_any (w:World):Calls Tryz.prog 17 #[] w fun e w'=>e=.returned (.bool true)/\Below w.heap.size w w':=by
 obtain ⟨H,A,T,S,hca⟩:=ca15
 have HCA:=Lh hca
 clear hca
 go_enter Tryz.func17,Tryz.ntmps17
 go_upto_region 1 with (fail)
 refine wp_region_list ?_
 refine wpList_plain rfl (fun K hK=>?_)
 go_simp
 refine hK _ _ ?_
 clear hK K
 try simp only [Act.put,sIA,sIB,sIC]
 refine wpList_plain rfl (fun K hK=>?_)
 go_simp
 go_at_call 6
 refine (HCA.out.nw _).mono ?_
 rintro e w1 ⟨Y,rfl,hn,hr,hb⟩
 have HR:=Lh (Rb.start w1 zAl16 36)
 have hal:=(Below.refl w1.heap.size w1).alloc (nLR _) zAo16
 have HA1:=Lh (show AR (w1.alloc zAo16) (w1.alloc zAo16).heap.size (A 0) Y/\AOff (A 0) Y w1.heap.size/\Below w.heap.size w (w1.alloc zAo16)/\w.heap.size<=w1.heap.size from ⟨hr.up hal,hr.offs (nLR _),hb.trans (hal.mono hb.size),hb.size⟩)
 clear hn hr hb hal
 refine hK _ _ ?_
 clear hK K
 try simp only [Act.put,sIA,sIB,sIC]
 iterate 4
  refine wpList_plain rfl (fun K hK=>?_)
  go_simp
  refine hK _ _ ?_
  clear hK K
  try simp only [Act.put,sIA,sIB,sIC]
 refine wpList_plain rfl (fun K hK=>?_)
 refine wp_store_st 36 _ _ rfl w1.heap.size zAl16 (acl15 (A 0) Y) rfl rfl HR.out (acl15_len _ _) info_ar15 (acl15_one _ _) ?_
 refine hK _ _ ?_
 clear hK K
 obtain ⟨u1,hu1⟩:∃ x,x=w1.heap.size:=⟨_,rfl⟩
 rw [<-hu1] at HR HA1 ⊢
 have HW2:=Lh (show Rb (stN15 (w1.alloc zAo16) u1 0 (acl15 (A 0) Y)) u1 (acl15 (A 0) Y)/\AR (stN15 (w1.alloc zAo16) u1 0 (acl15 (A 0) Y)) (stN15 (w1.alloc zAo16) u1 0 (acl15 (A 0) Y)).heap.size (A 0) Y/\AOff (A 0) Y u1/\Below w.heap.size w (stN15 (w1.alloc zAo16) u1 0 (acl15 (A 0) Y))/\w.heap.size<=u1 from ⟨HR.out.stN rfl,by rw [stN15_size];exact HA1.out.1.stN15 HA1.out.2.1 0,HA1.out.2.1,stN15_below HA1.out.2.2.1 HA1.out.2.2.2 0,HA1.out.2.2.2⟩)
 clear HR HA1
 generalize stN15 (w1.alloc zAo16) u1 0 (acl15 (A 0) Y)=w2 at*
 clear hu1
 try simp only [Act.put,sIA,sIB,sIC]
 refine wpList_plain rfl (fun K hK=>?_)
 go_simp
 refine hK _ _ ?_
 clear hK K
 try simp only [Act.put,sIA,sIB,sIC]
 go_upto_region 2 with (fail)
 refine wp_region_list ?_
 have HFL:=Lh (show Fl (w2.alloc (.cells #[.int .i64 0] 3)) (w2.alloc (.cells #[.int .i64 0] 3)).heap.size (.slice (some ⟨w2.heap.size,0,none⟩) 1 1) [0] from (Rb.start w2 (ics [0]) 3).fl (F:=[0]) (nLR 1) (by unfold maxLen;decide))
 have hal0:=Lh ((Below.refl w2.heap.size w2).alloc (nLR _) (.cells #[.int .i64 0] 3))
 refine wpList_plain rfl (fun K hK=>?_)
 go_simp
 refine hK _ _ ?_
 clear hK K
 try simp only [Act.put,sIA,sIB,sIC]
 refine wpList_plain rfl (fun K hK=>?_)
 go_simp
 go_at_call 9
 refine (HCA.out.sn _ _ _ HFL.out).mono ?_
 rintro e w3 ⟨X,rfl,hn,hr,hb⟩
 have hb2:=hal0.out.trans (hb.mono hal0.out.size)
 have HR:=Lh (Rb.start w3 zSl16 53)
 have hal:=(Below.refl w3.heap.size w3).alloc (nLR _) zSo16
 have HW3:=Lh (show (Rb (w3.alloc zSo16) u1 (acl15 (A 0) Y)/\AR (w3.alloc zSo16) (w3.alloc zSo16).heap.size (A 0) Y/\AOff (A 0) Y u1/\AOff (A 0) Y w3.heap.size)/\(SeR (w3.alloc zSo16) (w3.alloc zSo16).heap.size (S 0) X/\ROff ((S 0).rows X) u1/\ROff ((S 0).rows X) w3.heap.size)/\Below w.heap.size w (w3.alloc zSo16)/\w.heap.size<=u1/\w.heap.size<=w3.heap.size/\u1<w3.heap.size from
  ⟨⟨(HW2.out.1.up hb2).up hal,(HW2.out.2.1.up hb2).up hal,HW2.out.2.2.1,HW2.out.2.1.offs hb2.size⟩,⟨hr.up hal,hn.off (Nat.lt_of_lt_of_le HW2.out.1.lt hal0.out.size),hr.r.offs (nLR _)⟩,HW2.out.2.2.2.1.trans ((hb2.trans (hal.mono hb2.size)).mono HW2.out.2.2.2.1.size),HW2.out.2.2.2.2,Nat.le_trans HW2.out.2.2.2.1.size hb2.size,Nat.lt_of_lt_of_le HW2.out.1.lt hb2.size⟩)
 clear hn hr hb hb2 hal HW2 HFL hal0
 refine hK _ _ ?_
 clear hK K
 try simp only [Act.put,sIA,sIB,sIC]
 iterate 4
  refine wpList_plain rfl (fun K hK=>?_)
  go_simp
  refine hK _ _ ?_
  clear hK K
  try simp only [Act.put,sIA,sIB,sIC]
 refine wpList_plain rfl (fun K hK=>?_)
 refine wp_store_st 53 _ _ rfl w3.heap.size zSl16 (scl15 (S 0) X) rfl rfl HR.out (scl15_len _ _) info_se (scl15_one _ _) ?_
 refine hK _ _ ?_
 clear hK K
 obtain ⟨u3,hu3⟩:∃ x,x=w3.heap.size:=⟨_,rfl⟩
 rw [<-hu3] at HR HW3 ⊢
 have HX:=Lh (show Bx15 w u1 u3 (A 0) Y (S 0) X (stN15 (w3.alloc zSo16) u3 0 (scl15 (S 0) X)) from ⟨HW3.out.1.1.stNo (Nat.ne_of_gt HW3.out.2.2.2.2.2) 0,HR.out.stN rfl,by rw [stN15_size];exact HW3.out.1.2.1.stN15 HW3.out.1.2.2.2 0,by rw [stN15_size];exact HW3.out.2.1.1.stN HW3.out.2.1.2.2,HW3.out.1.2.2,HW3.out.2.1.2,⟨HW3.out.2.2.2.1,HW3.out.2.2.2.2.1,Nat.ne_of_lt HW3.out.2.2.2.2.2⟩,stN15_below HW3.out.2.2.1 HW3.out.2.2.2.2.1 0⟩)
 clear HR HW3
 generalize stN15 (w3.alloc zSo16) u3 0 (scl15 (S 0) X)=w4 at*
 clear hu3
 try simp only [Act.put,sIA,sIB,sIC]
 refine wpList_plain rfl (fun K hK=>?_)
 go_simp
 refine hK _ _ ?_
 clear hK K
 try simp only [Act.put,sIA,sIB,sIC]
 go_wp2
 go_loopw [5] (fun iv wr=>∃ (k:Nat) (Y:Ax) (X:Sex),iv=.int .i64 ((k:Int)+1)/\k<=10/\Hid (Bx15 w u1 u3 (A k) Y (S k) X wr)) (fun iv _=>12 - (intOf iv).toNat)
 case atStart=>exact ⟨0,Y,X,rfl,by decide,HX⟩
 case round=>
  clear HX
  obtain ⟨k,Y,X,rfl,hk,HX⟩:=hrel
  have HK:=Lh hk
  have hw1:IntKind.i64.wrap ((k:Int)+1+1)=(k:Int)+1+1:=IntWalk.i64_in _ (by omega)
  by_cases hlt:k<10
  ·have hle:(k:Int)+1<=10:=by omega
   have HLT:=Lh hlt
   have HNW:=Lh HX.out.bel.size
   clear hk hlt
   go_upto_region 8 with (fail)
   refine wp_region_list ?_
   refine wpList_load_mid rfl 36 _ rfl u1 0 rfl (acl15 (A k) Y) _ HX.out.r1.range (Tryz.underlying36) rfl info_ar15 ?_
   try simp only [Act.put,sIA,sIB,sIC]
   refine wpList_load_mid rfl 53 _ rfl u3 0 rfl (scl15 (S k) X) _ HX.out.r3.range (Tryz.underlying53) rfl info_se ?_
   try simp only [Act.put,sIA,sIB,sIC]
   refine wpList_plain rfl (fun K hK=>?_)
   go_simp
   refine hK _ _ ?_
   clear hK K
   try simp only [Act.put,sIA,sIB,sIC]
   refine wpList_plain rfl (fun K hK=>?_)
   go_simp
   go_at_call 13
   refine (HCA.out.st k HLT.out _ _ _ HX.out.ar HX.out.se).mono ?_
   rintro e w5 ⟨Y2,X2,rfl,hyn,hxn,har,hse,hb⟩
   have R6:=Lh (Rb.start w5 zAl16 36)
   have R7:=Lh (Rb.start (w5.alloc zAo16) zSl16 53)
   rw [show (w5.alloc zAo16).heap.size=w5.heap.size+1 by simp] at R7
   have hal1:=(Below.refl w5.heap.size w5).alloc (nLR _) zAo16
   have hal2:=hal1.alloc (by simp) zSo16
   replace R6:=Lh (R6.out.up ((Below.refl _ _).alloc (nLR _) zSo16))
   have HQ:=Lh (show u1<w5.heap.size/\u3<w5.heap.size from ⟨Nat.lt_of_lt_of_le HX.out.r1.lt hb.size,Nat.lt_of_lt_of_le HX.out.r3.lt hb.size⟩)
   have HN:=Lh (show (AOff (A (k+1)) Y2 u1/\AOff (A (k+1)) Y2 u3)/\ROff ((T (k+1)).rows X2) u1/\ROff ((T (k+1)).rows X2) u3 from ⟨⟨hyn.off HX.out.r1.lt,hyn.off HX.out.r3.lt⟩,hxn.off HX.out.r1.lt,hxn.off HX.out.r3.lt⟩)
   have HO:=Lh (show (AOff (A (k+1)) Y2 w5.heap.size/\AOff (A (k+1)) Y2 (w5.heap.size+1))/\ROff ((T (k+1)).rows X2) w5.heap.size/\ROff ((T (k+1)).rows X2) (w5.heap.size+1) from ⟨⟨har.offs (nLR _),har.offs (by omega)⟩,hse.r.offs (nLR _),hse.r.offs (by omega)⟩)
   have HXO:=Lh (show (AOff (A k) Y w5.heap.size/\AOff (A k) Y (w5.heap.size+1))/\ROff ((S k).rows X) w5.heap.size/\ROff ((S k).rows X) (w5.heap.size+1) from ⟨⟨(HX.out.ar.up hb).offs (nLR _),(HX.out.ar.up hb).offs (by omega)⟩,(HX.out.se.up hb).r.offs (nLR _),(HX.out.se.up hb).r.offs (by omega)⟩)
   have HNW5:=Lh (show w.heap.size<=w5.heap.size from Nat.le_trans HNW.out hb.size)
   have HAR:=Lh ((har.below hal2).more hal2.size)
   have HSE:=Lh ((hse.below hal2).more hal2.size)
   replace HX:=Lh ((HX.out.up hb).up hal2)
   clear hyn hxn har hse hb hal1 hal2
   refine hK _ _ ?_
   clear hK K
   try simp only [Act.put,sIA,sIB,sIC]
   iterate 6
    refine wpList_plain rfl (fun K hK=>?_)
    go_simp
    refine hK _ _ ?_
    clear hK K
    try simp only [Act.put,sIA,sIB,sIC]
   refine wpList_plain rfl (fun K hK=>?_)
   refine wp_store_st 36 _ _ rfl w5.heap.size zAl16 (acl15 (A (k+1)) Y2) rfl rfl R6.out (acl15_len _ _) info_ar15 (acl15_one _ _) ?_
   refine hK _ _ ?_
   clear hK K
   obtain ⟨u6,hu6⟩:∃ x,x=w5.heap.size:=⟨_,rfl⟩
   rw [<-hu6] at R6 R7 HQ HO HXO HNW5 ⊢
   have n67:¬u6=u6+1:=by omega
   have HP6:=Lh (show Rb (stN15 ((w5.alloc zAo16).alloc zSo16) u6 0 (acl15 (A (k+1)) Y2)) u6 (acl15 (A (k+1)) Y2)/\Rb (stN15 ((w5.alloc zAo16).alloc zSo16) u6 0 (acl15 (A (k+1)) Y2)) (u6+1) zSl16/\AR (stN15 ((w5.alloc zAo16).alloc zSo16) u6 0 (acl15 (A (k+1)) Y2)) (stN15 ((w5.alloc zAo16).alloc zSo16) u6 0 (acl15 (A (k+1)) Y2)).heap.size (A (k+1)) Y2/\SeR (stN15 ((w5.alloc zAo16).alloc zSo16) u6 0 (acl15 (A (k+1)) Y2)) (stN15 ((w5.alloc zAo16).alloc zSo16) u6 0 (acl15 (A (k+1)) Y2)).heap.size (T (k+1)) X2 from ⟨R6.out.stN rfl,R7.out.stNo n67 0,by rw [stN15_size];exact HAR.out.stN15 HO.out.1.1 0,by rw [stN15_size];exact HSE.out.stN HO.out.2.1⟩)
   have HX6:=Lh (show Bx15 w u1 u3 (A k) Y (S k) X (stN15 ((w5.alloc zAo16).alloc zSo16) u6 0 (acl15 (A (k+1)) Y2)) from HX.out.sto (Nat.ne_of_gt HQ.out.1) (Nat.ne_of_gt HQ.out.2) HXO.out.1.1 HXO.out.2.1 HNW5.out)
   clear R6 R7 HX HAR HSE
   generalize stN15 ((w5.alloc zAo16).alloc zSo16) u6 0 (acl15 (A (k+1)) Y2)=w6 at*
   clear hu6
   try simp only [Act.put,sIA,sIB,sIC]
   refine wpList_plain rfl (fun K hK=>?_)
   refine wp_store_st 53 _ _ rfl (u6+1) zSl16 (scl15 (T (k+1)) X2) rfl rfl HP6.out.2.1 (scl15_len _ _) info_se (scl15_one _ _) ?_
   refine hK _ _ ?_
   clear hK K
   have HP7:=Lh (show Rb (stN15 w6 (u6+1) 0 (scl15 (T (k+1)) X2)) u6 (acl15 (A (k+1)) Y2)/\Rb (stN15 w6 (u6+1) 0 (scl15 (T (k+1)) X2)) (u6+1) (scl15 (T (k+1)) X2)/\AR (stN15 w6 (u6+1) 0 (scl15 (T (k+1)) X2)) (stN15 w6 (u6+1) 0 (scl15 (T (k+1)) X2)).heap.size (A (k+1)) Y2/\SeR (stN15 w6 (u6+1) 0 (scl15 (T (k+1)) X2)) (stN15 w6 (u6+1) 0 (scl15 (T (k+1)) X2)).heap.size (T (k+1)) X2 from ⟨HP6.out.1.stNo (fun e=>n67 e.symm) 0,HP6.out.2.1.stN rfl,by rw [stN15_size];exact HP6.out.2.2.1.stN15 HO.out.1.2 0,by rw [stN15_size];exact HP6.out.2.2.2.stN HO.out.2.2⟩)
   have HX7:=Lh (show Bx15 w u1 u3 (A k) Y (S k) X (stN15 w6 (u6+1) 0 (scl15 (T (k+1)) X2)) from HX6.out.sto (by have:=HQ.out;omega) (by have:=HQ.out;omega) HXO.out.1.2 HXO.out.2.2 (by have:=HNW5.out;omega))
   clear HP6 HX6
   generalize stN15 w6 (u6+1) 0 (scl15 (T (k+1)) X2)=w7 at*
   try simp only [Act.put,sIA,sIB,sIC]
   refine wpList_plain rfl (fun K hK=>?_)
   go_simp
   refine hK _ _ ?_
   clear hK K
   try simp only [Act.put,sIA,sIB,sIC]
   go_upto_region 11 with (fail)
   have HN11:=Lh (show (Bx15 w u1 u3 (A (k+1)) Y2 (T (k+1)) X2 (stN15 (stN15 w7.drew u1 0 (acl15 (A (k+1)) Y2)) u3 0 (scl15 (T (k+1)) X2)))/\(stN15 w7.drew u1 0 (acl15 (A (k+1)) Y2)).rangeAt u6 0 (acl15 (A (k+1)) Y2)/\(stN15 w7.drew u1 0 (acl15 (A (k+1)) Y2)).rangeAt (u6+1) 0 (scl15 (T (k+1)) X2)/\Rb (stN15 w7.drew u1 0 (acl15 (A (k+1)) Y2)) u3 (scl15 (S k) X)/\(stN15 (stN15 w7.drew u1 0 (acl15 (A (k+1)) Y2)) u3 0 (scl15 (T (k+1)) X2)).rangeAt u6 0 (acl15 (A (k+1)) Y2)/\(stN15 (stN15 w7.drew u1 0 (acl15 (A (k+1)) Y2)) u3 0 (scl15 (T (k+1)) X2)).rangeAt (u6+1) 0 (scl15 (T (k+1)) X2) from by
    have hd:=(Below.refl w7.heap.size w7).drew
    have b0:=HX7.out.up hd
    have b1:=b0.putA (HP7.out.2.2.1.up hd) HN.out.1
    have r6:=(HP7.out.1.up hd).stNo (p:=u1) (vs:=(acl15 (A (k+1)) Y2)) (by have:=HQ.out;omega) 0
    have r7:=(HP7.out.2.1.up hd).stNo (p:=u1) (vs:=(acl15 (A (k+1)) Y2)) (by have:=HQ.out;omega) 0
    have se1:SeR (stN15 w7.drew u1 0 (acl15 (A (k+1)) Y2)) (stN15 w7.drew u1 0 (acl15 (A (k+1)) Y2)).heap.size (T (k+1)) X2:=by rw [stN15_size];exact (HP7.out.2.2.2.up hd).stN HN.out.2.1
    exact ⟨b1.putS se1 HN.out.2,r6.range,r7.range,b1.r3,(r6.stNo (p:=u3) (vs:=(scl15 (T (k+1)) X2)) (by have:=HQ.out;omega) 0).range,(r7.stNo (p:=u3) (vs:=(scl15 (T (k+1)) X2)) (by have:=HQ.out;omega) 0).range⟩)
   have HS0:=Lh (show w7.drew.rangeAt u6 0 (acl15 (A (k+1)) Y2)/\w7.drew.rangeAt (u6+1) 0 (scl15 (T (k+1)) X2) from ⟨(HP7.out.1.up (Below.refl w7.heap.size w7).drew).range,(HP7.out.2.1.up (Below.refl w7.heap.size w7).drew).range⟩)
   have HR1:=Lh (HX7.out.r1.up (Below.refl w7.heap.size w7).drew)
   go_cut [] (fun wx=>Hid (Bx15 w u1 u3 (A (k+1)) Y2 (T (k+1)) X2 wx))
   case first=>
    refine wp_region_noPanic ?_
    refine wp_region_held_drew (S:=fun W=>W.rangeAt u6 0 (acl15 (A (k+1)) Y2)/\W.rangeAt (u6+1) 0 (scl15 (T (k+1)) X2)) (by kernel_rfl) ?hS0 (fun hHeld=>?_)
    case hS0=>exact HS0.out
    generalize w7.drew=w8 at*
    refine wpAnyH_take (i:=0) (oi:=?o0x0) (v:=.agg (acl15 (A (k+1)) Y2).toArray) ?hi0x0 (by kernel_rfl) (by kernel_rfl) (by kernel_rfl) (fun _ _ _ h=>h) ?hy0x0 hHeld ?_
    case hi0x0=>simp only [List.getElem?_toArray,List.getElem?_cons_zero];exact rfl
    case hy0x0=>exact yieldsIf_load_mid rfl 36 _ rfl u6 0 rfl (acl15 (A (k+1)) Y2) _ (fun w hSw=>hSw.1) (Tryz.underlying36) rfl info_ar15
    try simp only [Act.put,sIA,sIB,sIC]
    refine wpAnyH_take (i:=1) (oi:=?o1x1) (v:=.agg (scl15 (T (k+1)) X2).toArray) ?hi1x1 (by kernel_rfl) (by kernel_rfl) (by kernel_rfl) (fun _ _ _ h=>h) ?hy1x1 hHeld ?_
    case hi1x1=>simp only [List.getElem?_toArray,List.getElem?_cons_succ,List.getElem?_cons_zero];exact rfl
    case hy1x1=>exact yieldsIf_load_mid rfl 53 _ rfl (u6+1) 0 rfl (scl15 (T (k+1)) X2) _ (fun w hSw=>hSw.2) (Tryz.underlying53) rfl info_se
    try simp only [Act.put,sIA,sIB,sIC]
    refine wpAnyH_ready (rs:=[2]) (by kernel_rfl) (by simp) ?_
    refine AllReadyH.cons (o:=?o2x2) ?ho2x2 ?st2x2 AllReadyH.nil
    case ho2x2=>simp only [List.getElem?_toArray,List.getElem?_cons_succ,List.getElem?_cons_zero];exact rfl
    case st2x2=>
     intro K hK
     refine wp_store_st 36 _ _ rfl u1 (acl15 (A k) Y) (acl15 (A (k+1)) Y2) rfl rfl HR1.out rfl info_ar15 (acl15_one _ _) ?_
     refine hK.out _ _ ?hS2x2 (fun hHeld=>?_)
     case hS2x2=>exact ⟨HN11.out.2.1,HN11.out.2.2.1⟩
     clear hK K
     try simp only [Act.put,sIA,sIB,sIC]
     clear hHeld
     have hHeld:=And.intro HN11.out.2.1 HN11.out.2.2.1
     clear HR1 HS0 HX7 HP7
     generalize stN15 w8 u1 0 (acl15 (A (k+1)) Y2)=w9 at*
     refine wpAnyH_ready (rs:=[3]) (by kernel_rfl) (by simp) ?_
     refine AllReadyH.cons (o:=?o3x3) ?ho3x3 ?st3x3 AllReadyH.nil
     case ho3x3=>simp only [List.getElem?_toArray,List.getElem?_cons_succ,List.getElem?_cons_zero];exact rfl
     case st3x3=>
      intro K hK
      refine wp_store_st 53 _ _ rfl u3 (scl15 (S k) X) (scl15 (T (k+1)) X2) rfl rfl HN11.out.2.2.2.1 rfl info_se (scl15_one _ _) ?_
      refine hK.out _ _ ?hS3x3 (fun hHeld=>?_)
      case hS3x3=>exact ⟨HN11.out.2.2.2.2.1,HN11.out.2.2.2.2.2⟩
      clear hK K
      try simp only [Act.put,sIA,sIB,sIC]
      clear hHeld
      have HNX:=Lh HN11.out.1
      clear HN11
      generalize stN15 w9 u3 0 (scl15 (T (k+1)) X2)=w10 at*
      refine wpAnyH_done (by kernel_rfl) ?_ _
      refine NoPanic.normal ?_
      go_wp2_with fail
      go_meet
      exact HNX
   case rest=>
    have HX:=Lh hcut.out
    clear hcut HN HO HXO HQ HNW HNW5 HN11 HS0 HR1 HX7 HP7
    generalize wc=w9 at*
    by_cases h6:k=6
    ·subst h6
     have c0:w9.cell? ⟨u3,0,none⟩=some (.int .i64 4):=by rw [<-HCA.out.p7.1];exact HX.out.r3.c 0 _ rfl
     have c11:w9.cell? ⟨u3,11,none⟩=some (.slice X2.A 1 X2.c):=by rw [<-HCA.out.p7.2];exact HX.out.r3.c 11 _ rfl
     have yl:=HX.out.r3.lt
     go_upto_region 13 with (fail)
     clear c0 c11 yl
     replace HX:=Lh (show Bx15 w u1 u3 (A 7) Y2 (T 7) X2 w9 from HX.out)
     refine wp_region_list ?_
     refine wpList_load_mid rfl 53 _ rfl u3 0 rfl (scl15 (T 7) X2) _ HX.out.r3.range (Tryz.underlying53) rfl info_se ?_
     try simp only [Act.put,sIA,sIB,sIC]
     refine wpList_plain rfl (fun K hK=>?_)
     go_simp
     go_at_call 10
     refine (HCA.out.un _ _ HX.out.se).mono ?_
     rintro e w10 ⟨ZU,rfl,hnu,hou,hb⟩
     have R9:=Lh (Rb.start w10 zOl16 51)
     have hal:=(Below.refl w10.heap.size w10).alloc (nLR _) zOo16
     have HO9:=Lh (show (OuR (w10.alloc zOo16) (w10.alloc zOo16).heap.size (⟨[H],0,[],[],[],[]⟩:Ou) ZU/\ROff ((⟨[H],0,[],[],[],[]⟩:Ou).rows ZU) w10.heap.size)/\u1<w10.heap.size/\u3<w10.heap.size/\w.heap.size<=w10.heap.size from ⟨⟨hou.up hal,hou.r.offs (nLR _)⟩,Nat.lt_of_lt_of_le HX.out.r1.lt hb.size,Nat.lt_of_lt_of_le HX.out.r3.lt hb.size,Nat.le_trans HX.out.bel.size hb.size⟩)
     have HXO:=Lh (And.intro ((HX.out.ar.up hb).offs (nLR w10.heap.size)) ((HX.out.se.up hb).r.offs (nLR w10.heap.size)))
     replace HX:=Lh ((HX.out.up hb).up hal)
     clear hnu hou hb hal
     refine hK _ _ ?_
     clear hK K
     try simp only [Act.put,sIA,sIB,sIC]
     refine wpList_plain rfl (fun K hK=>?_)
     go_simp
     refine hK _ _ ?_
     clear hK K
     try simp only [Act.put,sIA,sIB,sIC]
     refine wpList_plain rfl (fun K hK=>?_)
     refine wp_store_st 51 _ _ rfl w10.heap.size zOl16 (ocl15 (⟨[H],0,[],[],[],[]⟩:Ou) ZU) rfl rfl R9.out rfl info_ou15 (ocl15_one _ _) ?_
     refine hK _ _ ?_
     clear hK K
     obtain ⟨u9,hu9⟩:∃ x,x=w10.heap.size:=⟨_,rfl⟩
     rw [<-hu9] at R9 HO9 HXO ⊢
     have HR9:=Lh (show Rb (stN15 (w10.alloc zOo16) u9 0 (ocl15 (⟨[H],0,[],[],[],[]⟩:Ou) ZU)) u9 (ocl15 (⟨[H],0,[],[],[],[]⟩:Ou) ZU)/\OuR (stN15 (w10.alloc zOo16) u9 0 (ocl15 (⟨[H],0,[],[],[],[]⟩:Ou) ZU)) (stN15 (w10.alloc zOo16) u9 0 (ocl15 (⟨[H],0,[],[],[],[]⟩:Ou) ZU)).heap.size (⟨[H],0,[],[],[],[]⟩:Ou) ZU from ⟨R9.out.stN rfl,⟨by rw [stN15_size];exact HO9.out.1.1.r.stN HO9.out.1.2 0,HO9.out.1.1.ok⟩⟩)
     have HX9:=Lh (show Bx15 w u1 u3 (A 7) Y2 (T 7) X2 (stN15 (w10.alloc zOo16) u9 0 (ocl15 (⟨[H],0,[],[],[],[]⟩:Ou) ZU)) from HX.out.sto (Nat.ne_of_gt HO9.out.2.1) (Nat.ne_of_gt HO9.out.2.2.1) HXO.out.1 HXO.out.2 HO9.out.2.2.2)
     clear R9 HX
     generalize stN15 (w10.alloc zOo16) u9 0 (ocl15 (⟨[H],0,[],[],[],[]⟩:Ou) ZU)=w11 at*
     clear hu9
     try simp only [Act.put,sIA,sIB,sIC]
     go_upto_region 14 with (fail)
     have d3:=HR9.out.1.c 3 _ rfl
     have f3:=HR9.out.1.f 3
     have ul:=HR9.out.1.lt
     have e0:(w11.setCell ⟨u9,3,none⟩ (Value.slice (some ⟨w11.heap.size,0,none⟩) 1 1)).heap.size=w11.heap.size:=by simp
     have HB14:=Lh ((Below.refl (w11.setCell ⟨u9,3,none⟩ (Value.slice (some ⟨w11.heap.size,0,none⟩) 1 1)).heap.size (w11.setCell ⟨u9,3,none⟩ (Value.slice (some ⟨w11.heap.size,0,none⟩) 1 1))).alloc (nLR _) (.cells #[.int .i64 0] 3))
     have hfl0:=(Rb.start (w11.setCell ⟨u9,3,none⟩ (Value.slice (some ⟨w11.heap.size,0,none⟩) 1 1)) (ics [0]) 3).fl (F:=[0]) (c:=1) (nLR 1) (by unfold maxLen;decide)
     rw [e0] at hfl0
     have HFL:=Lh (show Fl ((w11.setCell ⟨u9,3,none⟩ (Value.slice (some ⟨w11.heap.size,0,none⟩) 1 1)).alloc (.cells #[.int .i64 0] 3)) ((w11.setCell ⟨u9,3,none⟩ (Value.slice (some ⟨w11.heap.size,0,none⟩) 1 1)).alloc (.cells #[.int .i64 0] 3)).heap.size (.slice (some ⟨w11.heap.size,0,none⟩) 1 1) [0] from hfl0)
     clear hfl0
     have HZ:=Lh (show Rb ((w11.setCell ⟨u9,3,none⟩ (Value.slice (some ⟨w11.heap.size,0,none⟩) 1 1)).alloc (.cells #[.int .i64 0] 3)) u9 (ocl15 (⟨[H],0,[],[0],[],[]⟩:Ou) { ZU with Ao:=some ⟨w11.heap.size,0,none⟩,co:=1 })/\OuR ((w11.setCell ⟨u9,3,none⟩ (Value.slice (some ⟨w11.heap.size,0,none⟩) 1 1)).alloc (.cells #[.int .i64 0] 3)) ((w11.setCell ⟨u9,3,none⟩ (Value.slice (some ⟨w11.heap.size,0,none⟩) 1 1)).alloc (.cells #[.int .i64 0] 3)).heap.size (⟨[H],0,[],[0],[],[]⟩:Ou) { ZU with Ao:=some ⟨w11.heap.size,0,none⟩,co:=1 } from by
      have hro:=HO9.out.1.2
      have h0:RR (w11.setCell ⟨u9,3,none⟩ (Value.slice (some ⟨w11.heap.size,0,none⟩) 1 1)) (w11.setCell ⟨u9,3,none⟩ (Value.slice (some ⟨w11.heap.size,0,none⟩) 1 1)).heap.size ((⟨[H],0,[],[],[],[]⟩:Ou).rows ZU):=by rw [e0];exact HR9.out.2.r.offp (q:=⟨u9,3,none⟩) hro _
      have h1:=h0.alloc (.cells #[.int .i64 0] 3)
      have hk:=HR9.out.2.ok
      refine ⟨(HR9.out.1.set (j:=3) (show 3<6 by decide) _).up HB14.out,⟨ou_rows_of (fun x hx=>h1 x (by simp only [Ou.rows,List.mem_append];exact .inl hx)) (h1 ⟨7,ZU.Ad,0,[]⟩ (by simp [Ou.rows,lcs])) HFL.out.rd (h1 ⟨7,ZU.Ac,0,[]⟩ (by simp [Ou.rows,lcs])) (h1 ⟨4,ZU.Ae,0,[]⟩ (by simp [Ou.rows,edcs])),⟨hk.q,hk.qc,hk.c.1,hk.c.2.1,⟨nLR 1,show (1:Nat)<=maxLen by unfold maxLen;decide⟩,hk.c.2.2.2.1,hk.c.2.2.2.2⟩⟩⟩)
     have HX14:=Lh (show Bx15 w u1 u3 (A 7) Y2 (T 7) X2 ((w11.setCell ⟨u9,3,none⟩ (Value.slice (some ⟨w11.heap.size,0,none⟩) 1 1)).alloc (.cells #[.int .i64 0] 3)) from (HX9.out.sto (o:=3) (vs:=[.slice (some ⟨w11.heap.size,0,none⟩) 1 1]) (Nat.ne_of_gt HO9.out.2.1) (Nat.ne_of_gt HO9.out.2.2.1) HXO.out.1 HXO.out.2 HO9.out.2.2.2).up HB14.out)
     clear e0
     clear HR9 HX9 HB14 HFL
     go_upto_region 15 with (fail)
     clear d3 f3 ul
     obtain ⟨Z2,hZ2⟩:∃ x,x = { ZU with Ao:=some ⟨w11.heap.size,0,none⟩,co:=1 }:=⟨_,rfl⟩
     rw [<-hZ2] at HZ
     clear hZ2
     generalize (w11.setCell ⟨u9,3,none⟩ (Value.slice (some ⟨w11.heap.size,0,none⟩) 1 1)).alloc (.cells #[.int .i64 0] 3)=w12 at*
     refine wp_region_list ?_
     refine wpList_load_mid rfl 53 _ rfl u3 0 rfl (scl15 (T 7) X2) _ HX14.out.r3.range (Tryz.underlying53) rfl info_se ?_
     try simp only [Act.put,sIA,sIB,sIC]
     refine wpList_load_mid rfl 51 _ rfl u9 0 rfl (ocl15 (⟨[H],0,[],[0],[],[]⟩:Ou) Z2) _ HZ.out.1.range (Tryz.underlying51) rfl info_ou15 ?_
     try simp only [Act.put,sIA,sIB,sIC]
     refine wpList_plain rfl (fun K hK=>?_)
     go_simp
     go_at_call 12
     refine (HCA.out.dc _ _ _ HX14.out.se HZ.out.2).mono ?_
     rintro e w13 ⟨X3,rfl,hxn,hse,hb⟩
     have HOX:=Lh (show ROff ((S 7).rows X3) u1/\ROff ((S 7).rows X3) u3 from ⟨hxn.off HX14.out.r1.lt,hxn.off HX14.out.r3.lt⟩)
     have HX:=Lh (HX14.out.up hb)
     have HSE:=Lh hse
     clear hxn hse hb HX14 HZ
     refine hK _ _ ?_
     clear hK K
     try simp only [Act.put,sIA,sIB,sIC]
     iterate 3
      refine wpList_plain rfl (fun K hK=>?_)
      go_simp
      refine hK _ _ ?_
      clear hK K
      try simp only [Act.put,sIA,sIB,sIC]
     refine wpList_plain rfl (fun K hK=>?_)
     refine wp_store_st 53 _ _ rfl u3 (scl15 (T 7) X2) (scl15 (S 7) X3) rfl rfl HX.out.r3 (scl15_len _ _) info_se (scl15_one _ _) ?_
     refine hK _ _ ?_
     clear hK K
     have HXF:=Lh (HX.out.putS HSE.out HOX.out)
     clear HX HSE HOX
     generalize stN15 w13 u3 0 (scl15 (S 7) X3)=w14 at*
     try simp only [Act.put,sIA,sIB,sIC]
     refine wpList_plain rfl (fun K hK=>?_)
     go_simp
     refine hK _ _ ?_
     clear hK K
     try simp only [Act.put,sIA,sIB,sIC]
     have hn7:(((6:Nat):Int)+1 != 7)=false:=by decide
     go_wp2
     go_roundw
     case rel=>exact ⟨7,Y2,X3,by first | rfl | (simp;done) | go_num,by decide,HXF⟩
     case measure=>simp [intOf] <;> omega
    ·have hsd:=HCA.out.sd k HLT.out h6
     have hb4:=hsd.2
     rw [hsd.1] at HX hb4
     have c0:=HX.out.r3.c 0 _ rfl
     have yl:=HX.out.r3.lt
     clear hsd
     go_wp2
     go_roundw
     case rel=>exact ⟨k+1,Y2,X2,by first | rfl | (simp;done) | go_num,HLT.out,HX⟩
     case measure=>have:=HLT.out;simp [intOf];omega
  ·have hle:¬(k:Int)+1<=10:=by omega
   obtain rfl:k=10:=by omega
   obtain ⟨h9,x,hxs,hx2⟩:=HCA.out.fin
   have c0:wr.cell? ⟨u3,0,none⟩=some (.int .i64 9):=by rw [<-h9];exact HX.out.r3.c 0 _ rfl
   have hst:=HX.out.ar.tl
   have c1:=HX.out.r1.c 1 _ rfl
   rw [hxs] at hst c1
   obtain ⟨b,o,hA,hb,hc,-⟩:=hst.atg (k:=0) (by simp)
   rw [show (tg [x] 0).sq=2 from hx2] at hc
   rw [hA,show [x].length=1 from rfl] at c1
   simp only [Nat.zero_mul,Nat.add_zero] at hc
   have yl:=HX.out.r3.lt
   have zl:=HX.out.r1.lt
   have HF:=Lh HX.out.bel
   clear HX hst hxs hb hk hlt h9 hA HCA
   go_wp2
   go_ret
   exact ⟨rfl,HF.out⟩
end Go.Proofs.YtkecnihgjepfeaaGreat
