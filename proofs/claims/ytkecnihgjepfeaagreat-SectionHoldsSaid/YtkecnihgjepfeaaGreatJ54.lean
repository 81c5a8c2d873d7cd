/- What is proved here: parts of the proof: Hsb. -/
import Derived.Test.YtkecnihgjepfeaaGreatJ53
namespace Go.Proofs.YtkecnihgjepfeaaGreat
open Go.RowKit
set_option linter.unusedVariables false
set_option linter.unusedSimpArgs false
set_option maxHeartbeats 8000000
set_option maxRecDepth 20000
theorem hsP16_1:hsP16.val.1:=by
 intro w a1 l1 c1 zs ya1 w1 g ws su N A0 w2 ya2 u1 w3 w4 cc cs bc oc HCS C HCT S0 HCK w5 ya3 u3 w6 ya4 ya5 wr u2 u9 u10 u11 u12 u13 u14 u15 u16 u17 u46 u47 u48 u49 u50 u51 u52 u53 u54 u55 u56 u57 u58 u59 u60 u61 u62 u63 u64 u65 u66 u67 u68 u69 u70 u71 u72 u73 u74 u75 u76 u77 u78 u79 u80 u81 u82 u83 u84 u85 u86 u87 u88 u89 u90 u91 u92 u93 u94 u95 u96 u97 u98 u99 u100 u101 u102 u103 u104 u105 u106 u107 u108 u109 u110 u111 u112 u113 u114 u115 u116 u117 u118 u119 u120 u121 u122 u123 u124 u125 u126 u127 u128 u129 u130 u131 u132 u133 u134 u135 u136 u137 u138 u139 u140 u141 u142 u143 u144 u145 u146 u147 u148 u149 u150 u151 u152 u153 u154 u155 u156 u157 u158 u159 u160 u161 u162 u163 u164 u165 u166 u167 u168 u169 u170 u171 u172 u173 u174 u175 u176 u177 u178 u179 u180 u181 u182 u183 u184 u185 u186 u187 u188 u189 u190 u191 u192 u193 u194 u195 u196 u197 u198 u199 u200 u201 u202 u203 u204 u205 u206 u207 u208 u209 u210 u211 u212 k p r a Y s X HL HX HE HGA HFX HPH HLE hle hne9 HN9 c0 yl HWN h4 hb4
 have HPE:=Lh (HFX.out.e (HPH.out ▸ h4))
 have HHX:=Lh (show Hx15 C (pE15 C) a s by rw [<-HPE.out.1];exact HL.out.hx)
 have HUN:=Lh (fun W (h:SeR W W.heap.size s X)=>uunch_any s X W h (HL.out.hx.2.smc HCK.out))
 clear h4
 go_upto_region 13 with (fail)
 clear hb4 c0 yl hne9 hle
 refine wp_region_list ?_
 refine wpList_load_mid rfl 53 _ rfl u3 0 rfl (scl15 s X) _ HX.out.r3.range (Tryz.underlying53) rfl info_se ?_
 try simp only [Act.put,sIA,sIB,sIC]
 refine wpList_plain rfl (fun K hK=>?_)
 go_simp
 go_at_call 10
 refine (HUN.out _ HX.out.se).mono ?_
 rintro e w10 ⟨ZU,rfl,hnu,hou,hb⟩
 have R9:=Lh (Rb.start w10 zOl16 51)
 have hal:=(Below.refl w10.heap.size w10).alloc (nLR _) zOo16
 have HO9:=Lh (show (OuR (w10.alloc zOo16) (w10.alloc zOo16).heap.size (unP s) ZU/\ROff ((unP s).rows ZU) w10.heap.size)/\u1<w10.heap.size/\u3<w10.heap.size/\w.heap.size<=w10.heap.size from ⟨⟨hou.up hal,hou.r.offs (nLR _)⟩,Nat.lt_of_lt_of_le HX.out.r1.lt hb.size,Nat.lt_of_lt_of_le HX.out.r3.lt hb.size,Nat.le_trans HX.out.bel.size hb.size⟩)
 have HZG:=Lh (hnu.off (HE.out.g g rfl).1.2.1)
 have HEN:=Lh ((HE.out.up hb).new (u:=w10.heap.size) (nLR _))
 replace HE:=Lh ((HE.out.up hb).up hal)
 have HXO:=Lh (And.intro ((HX.out.ar.up hb).offs (nLR w10.heap.size)) ((HX.out.se.up hb).r.offs (nLR w10.heap.size)))
 replace HX:=Lh ((HX.out.up hb).up hal)
 clear hnu hou hb hal
 refine hK _ _ ?_
 clear hK K
 try simp only [Act.put,sIA,sIB,sIC]
 refine wpList_plain rfl (fun K hK=>?_)
 go_simp
 refine hK _ _ ?_
 clear hK K
 try simp only [Act.put,sIA,sIB,sIC]
 refine wpList_plain rfl (fun K hK=>?_)
 refine wp_store_st 51 _ _ rfl w10.heap.size zOl16 (ocl15 (unP s) ZU) rfl rfl R9.out rfl info_ou15 (ocl15_one _ _) ?_
 refine hK _ _ ?_
 clear hK K
 obtain ⟨u9,hu9⟩:∃ x,x=w10.heap.size:=⟨_,rfl⟩
 rw [<-hu9] at R9 HO9 HXO HEN ⊢
 have HR9:=Lh (show Rb (stN15 (w10.alloc zOo16) u9 0 (ocl15 (unP s) ZU)) u9 (ocl15 (unP s) ZU)/\OuR (stN15 (w10.alloc zOo16) u9 0 (ocl15 (unP s) ZU)) (stN15 (w10.alloc zOo16) u9 0 (ocl15 (unP s) ZU)).heap.size (unP s) ZU from ⟨R9.out.stN rfl,⟨by rw [stN15_size];exact HO9.out.1.1.r.stN HO9.out.1.2 0,HO9.out.1.1.ok⟩⟩)
 have HX9:=Lh (show Bx15 w u1 u3 a Y s X (stN15 (w10.alloc zOo16) u9 0 (ocl15 (unP s) ZU)) from HX.out.sto (Nat.ne_of_gt HO9.out.2.1) (Nat.ne_of_gt HO9.out.2.2.1) HXO.out.1 HXO.out.2 HO9.out.2.2.2)
 have HE9:=Lh (HE.out.sto (o:=0) (vs:=ocl15 (unP s) ZU) HEN.out.1 HEN.out.2 HO9.out.2.2.2)
 have HOB:=Lh (show Ob16 (stN15 (w10.alloc zOo16) u9 0 (ocl15 (unP s) ZU)) u9 (unP s) ZU from ⟨HR9.out.1,HR9.out.2,HO9.out.1.2⟩)
 clear R9 HX HE HR9
 generalize stN15 (w10.alloc zOo16) u9 0 (ocl15 (unP s) ZU)=w11 at*
 clear hu9
 try simp only [Act.put,sIA,sIB,sIC]
 go_wp2_with fail
 refine (n_any w.heap.size g _ (HE9.out.g g rfl).1 2 (by omega) (by omega)).mono ?_
 rintro e w12 ⟨x,rfl,x0,x1,hs,hg⟩
 have HX:=Lh (HX9.out.turn hg (HE9.out.g g rfl).2.1.1 (HE9.out.g g rfl).2.1.2 HGA.out.1 HGA.out.2 (HE9.out.g g rfl).1.1)
 have HOB:=Lh (HOB.out.turn hg (HEN.out.2 g rfl) HZG.out)
 have HE:=Lh (HE9.out.turn hs hg)
 clear hs hg x0 x1 HX9 HE9
 by_cases hx0:x=0
 ·have hbx:(x==0)=true:=by simp [hx0]
  clear hx0
  go_wp2_with fail
  refine (n_any w.heap.size g _ (HE.out.g g rfl).1 (cs.length:Int) (by have:=HCS.out.2;omega) (by have:=HCS.out.2;omega)).mono ?_
  rintro e w13 ⟨y,rfl,y0,y1,hs,hg⟩
  have HX:=Lh (HX.out.turn hg (HE.out.g g rfl).2.1.1 (HE.out.g g rfl).2.1.2 HGA.out.1 HGA.out.2 (HE.out.g g rfl).1.1)
  have HOB:=Lh (HOB.out.turn hg (HEN.out.2 g rfl) HZG.out)
  have HE:=Lh (HE.out.turn hs hg)
  have HO:=Lh (od_one (C:=C) y0 (by rw [HCT.out.2.1];omega))
  clear hs hg y0 y1
  have d3:=HOB.out.rb.c 3 _ rfl
  have f3:=HOB.out.rb.f 3
  have ul:=HOB.out.rb.lt
  go_upto_region 16 with (fail)
  clear d3 f3 ul hbx
  obtain ⟨v8,hv8⟩:∃ x,x=w13.heap.size:=⟨_,rfl⟩
  have HO2:=HOB.out.ord [y] 3 (by unfold maxLen;show 1<=_;decide)
  rw [<-hv8] at HO2
  have hal:=(Below.refl (w13.setCell ⟨u9,3,none⟩ (.slice (some ⟨v8,0,none⟩) 1 1)).heap.size _).alloc (nLR _) (.cells #[.int .i64 y] 3)
  have HX:=Lh (show Bx15 w u1 u3 a Y s X ((w13.setCell ⟨u9,3,none⟩ (.slice (some ⟨v8,0,none⟩) 1 1)).alloc (.cells #[.int .i64 y] 3)) from (HX.out.sto (o:=3) (vs:=[.slice (some ⟨v8,0,none⟩) 1 1]) (Nat.ne_of_gt HO9.out.2.1) (Nat.ne_of_gt HO9.out.2.2.1) HXO.out.1 HXO.out.2 HO9.out.2.2.2).up hal)
  have HE:=Lh (show Ex16 w (some g) u1 u3 [⟨1,some ⟨bc,oc,none⟩,cs.length,ics cs⟩] ((w13.setCell ⟨u9,3,none⟩ (.slice (some ⟨v8,0,none⟩) 1 1)).alloc (.cells #[.int .i64 y] 3)) from (HE.out.sto (o:=3) (vs:=[.slice (some ⟨v8,0,none⟩) 1 1]) HEN.out.1 HEN.out.2 HO9.out.2.2.2).up hal)
  have HOB:=Lh (show Ob16 ((w13.setCell ⟨u9,3,none⟩ (.slice (some ⟨v8,0,none⟩) 1 1)).alloc (.cells #[.int .i64 y] 3)) u9 ⟨s.sh,s.dc,s.dl,[y],[],[]⟩ _ from HO2)
  rw [<-hv8]
  clear HO2 hal hv8
  generalize (w13.setCell ⟨u9,3,none⟩ (.slice (some ⟨v8,0,none⟩) 1 1)).alloc (.cells #[.int .i64 y] 3)=w16 at*
  generalize ({ ZU with Ao:=some ⟨v8,0,none⟩,co:=[y].length }:Oux)=Z2 at HOB
  obtain ⟨p3,r3,s3,hrk,hle,hd,hhx,hcall⟩:=hx_decide HCK.out HHX.out HO.out (Z:=Z2) HX.out.se HOB.out.ou
  have HDC:=Lh hcall
  have HNP:=Lh (show Lh16 C (k+1) p3 r3 a s3 from ⟨hrk,hhx,by have:=HPE.out.2;have:=HLE.out.1;omega⟩)
  clear hrk hle hd hhx hcall HUN
  refine wp_region_list ?_
  refine wpList_load_mid rfl 53 _ rfl u3 0 rfl (scl15 s X) _ HX.out.r3.range (Tryz.underlying53) rfl info_se ?_
  try simp only [Act.put,sIA,sIB,sIC]
  refine wpList_load_mid rfl 51 _ rfl u9 0 rfl (ocl15 (⟨s.sh,s.dc,s.dl,[y],[],[]⟩:Ou) Z2) _ HOB.out.rb.range (Tryz.underlying51) rfl info_ou15 ?_
  try simp only [Act.put,sIA,sIB,sIC]
  refine wpList_plain rfl (fun K hK=>?_)
  go_simp
  go_at_call 12
  refine (HDC.out).mono ?_
  rintro e w13 ⟨X3,rfl,hxn,hse,hb⟩
  have R7:=Lh (Rb.start w13 zSl16 53)
  have hal:=(Below.refl w13.heap.size w13).alloc (nLR _) zSo16
  have HN:=Lh (show ROff (s3.rows X3) u1/\ROff (s3.rows X3) u3 from ⟨hxn.off HX.out.r1.lt,hxn.off HX.out.r3.lt⟩)
  have HGO:=Lh (show ∀ q,(some g)=some q->ROff (s3.rows X3) q from fun q e=>hxn.off (HE.out.g q e).1.2.1)
  have HO10:=Lh (show ROff (s3.rows X3) w13.heap.size from hse.r.offs (nLR _))
  have HXO:=Lh (And.intro ((HX.out.ar.up hb).offs (nLR w13.heap.size)) ((HX.out.se.up hb).r.offs (nLR w13.heap.size)))
  have HQ:=Lh (show (w13.heap.size≠u1/\w13.heap.size≠u3)/\w.heap.size<=w13.heap.size from ⟨⟨Nat.ne_of_gt (Nat.lt_of_lt_of_le HX.out.r1.lt hb.size),Nat.ne_of_gt (Nat.lt_of_lt_of_le HX.out.r3.lt hb.size)⟩,Nat.le_trans HX.out.bel.size hb.size⟩)
  have HEN:=Lh ((HE.out.up hb).new (u:=w13.heap.size) (nLR _))
  have HSE:=Lh (hse.up hal)
  replace HE:=Lh ((HE.out.up hb).up hal)
  replace HX:=Lh ((HX.out.up hb).up hal)
  clear hxn hse hb hal HOB
  refine hK _ _ ?_
  clear hK K
  try simp only [Act.put,sIA,sIB,sIC]
  iterate 4
   refine wpList_plain rfl (fun K hK=>?_)
   go_simp
   refine hK _ _ ?_
   clear hK K
   try simp only [Act.put,sIA,sIB,sIC]
  refine wpList_plain rfl (fun K hK=>?_)
  refine wp_store_st 53 _ _ rfl w13.heap.size zSl16 (scl15 s3 X3) rfl rfl R7.out (scl15_len _ _) info_se (scl15_one _ _) ?_
  refine hK _ _ ?_
  clear hK K
  obtain ⟨u10,hu10⟩:∃ x,x=w13.heap.size:=⟨_,rfl⟩
  rw [<-hu10] at R7 HO10 HXO HQ HEN ⊢
  have HP:=Lh (show Rb (stN15 (w13.alloc zSo16) u10 0 (scl15 s3 X3)) u10 (scl15 s3 X3)/\SeR (stN15 (w13.alloc zSo16) u10 0 (scl15 s3 X3)) (stN15 (w13.alloc zSo16) u10 0 (scl15 s3 X3)).heap.size s3 X3 from ⟨R7.out.stN rfl,by rw [stN15_size];exact HSE.out.stN HO10.out⟩)
  replace HX:=Lh (show Bx15 w u1 u3 a Y s X (stN15 (w13.alloc zSo16) u10 0 (scl15 s3 X3)) from HX.out.sto HQ.out.1.1 HQ.out.1.2 HXO.out.1 HXO.out.2 HQ.out.2)
  replace HE:=Lh (HE.out.sto (o:=0) (vs:=(scl15 s3 X3)) HEN.out.1 HEN.out.2 HQ.out.2)
  clear R7 HSE HO10 HXO HQ HEN
  generalize stN15 (w13.alloc zSo16) u10 0 (scl15 s3 X3)=w14 at*
  clear hu10
  try simp only [Act.put,sIA,sIB,sIC]
  refine wpList_plain rfl (fun K hK=>?_)
  go_simp
  refine hK _ _ ?_
  clear hK K
  try simp only [Act.put,sIA,sIB,sIC]
  go_upto_region 19 with (fail)
  refine wp_region_list ?_
  refine wpList_load_mid rfl 53 _ rfl u10 0 rfl (scl15 s3 X3) _ HP.out.1.range (Tryz.underlying53) rfl info_se ?_
  try simp only [Act.put,sIA,sIB,sIC]
  refine wpList_plain rfl (fun K hK=>?_)
  refine wp_store_st 53 _ _ rfl u3 (scl15 s X) (scl15 s3 X3) rfl rfl HX.out.r3 (scl15_len _ _) info_se (scl15_one _ _) ?_
  refine hK _ _ ?_
  clear hK K
  have HXF:=Lh (HX.out.putS HP.out.2 HN.out)
  have HEF:=Lh (HE.out.sto3 (o:=0) (vs:=(scl15 s3 X3)) HX.out.ne.2.1)
  clear HX HE HP HN
  generalize stN15 w14 u3 0 (scl15 s3 X3)=w15 at*
  try simp only [Act.put,sIA,sIB,sIC]
  have hwn:=HWN.out
  have HGF:=Lh (show AOff a Y g/\ROff (s3.rows X3) g from ⟨HGA.out.1,HGO.out g rfl⟩)
  go_wp2
  go_roundw
  case rel=>exact ⟨k+1,p3,r3,a,Y,s3,X3,by first | rfl | (simp;done) | go_num,HNP,HXF,HEF,HGF⟩
  case measure=>have:=HLE.out;simp [intOf];omega
 ·have hbx:(x==0)=false:=by simpa using hx0
  clear hx0
  have HO:=Lh (od_none C)
  have HOB:=Lh (show Ob16 w12 u9 ⟨s.sh,s.dc,s.dl,[],[],[]⟩ ZU from HOB.out)
  obtain ⟨Z2,hZ2⟩:∃ Z,Z=ZU:=⟨_,rfl⟩
  rw [<-hZ2] at HOB
  clear hZ2
  go_upto_region 16 with (fail)
  clear hbx
  obtain ⟨p3,r3,s3,hrk,hle,hd,hhx,hcall⟩:=hx_decide HCK.out HHX.out HO.out (Z:=Z2) HX.out.se HOB.out.ou
  have HDC:=Lh hcall
  have HNP:=Lh (show Lh16 C (k+1) p3 r3 a s3 from ⟨hrk,hhx,by have:=HPE.out.2;have:=HLE.out.1;omega⟩)
  clear hrk hle hd hhx hcall HUN
  refine wp_region_list ?_
  refine wpList_load_mid rfl 53 _ rfl u3 0 rfl (scl15 s X) _ HX.out.r3.range (Tryz.underlying53) rfl info_se ?_
  try simp only [Act.put,sIA,sIB,sIC]
  refine wpList_load_mid rfl 51 _ rfl u9 0 rfl (ocl15 (⟨s.sh,s.dc,s.dl,[],[],[]⟩:Ou) Z2) _ HOB.out.rb.range (Tryz.underlying51) rfl info_ou15 ?_
  try simp only [Act.put,sIA,sIB,sIC]
  refine wpList_plain rfl (fun K hK=>?_)
  go_simp
  go_at_call 12
  refine (HDC.out).mono ?_
  rintro e w13 ⟨X3,rfl,hxn,hse,hb⟩
  have R7:=Lh (Rb.start w13 zSl16 53)
  have hal:=(Below.refl w13.heap.size w13).alloc (nLR _) zSo16
  have HN:=Lh (show ROff (s3.rows X3) u1/\ROff (s3.rows X3) u3 from ⟨hxn.off HX.out.r1.lt,hxn.off HX.out.r3.lt⟩)
  have HGO:=Lh (show ∀ q,(some g)=some q->ROff (s3.rows X3) q from fun q e=>hxn.off (HE.out.g q e).1.2.1)
  have HO10:=Lh (show ROff (s3.rows X3) w13.heap.size from hse.r.offs (nLR _))
  have HXO:=Lh (And.intro ((HX.out.ar.up hb).offs (nLR w13.heap.size)) ((HX.out.se.up hb).r.offs (nLR w13.heap.size)))
  have HQ:=Lh (show (w13.heap.size≠u1/\w13.heap.size≠u3)/\w.heap.size<=w13.heap.size from ⟨⟨Nat.ne_of_gt (Nat.lt_of_lt_of_le HX.out.r1.lt hb.size),Nat.ne_of_gt (Nat.lt_of_lt_of_le HX.out.r3.lt hb.size)⟩,Nat.le_trans HX.out.bel.size hb.size⟩)
  have HEN:=Lh ((HE.out.up hb).new (u:=w13.heap.size) (nLR _))
  have HSE:=Lh (hse.up hal)
  replace HE:=Lh ((HE.out.up hb).up hal)
  replace HX:=Lh ((HX.out.up hb).up hal)
  clear hxn hse hb hal HOB
  refine hK _ _ ?_
  clear hK K
  try simp only [Act.put,sIA,sIB,sIC]
  iterate 4
   refine wpList_plain rfl (fun K hK=>?_)
   go_simp
   refine hK _ _ ?_
   clear hK K
   try simp only [Act.put,sIA,sIB,sIC]
  refine wpList_plain rfl (fun K hK=>?_)
  refine wp_store_st 53 _ _ rfl w13.heap.size zSl16 (scl15 s3 X3) rfl rfl R7.out (scl15_len _ _) info_se (scl15_one _ _) ?_
  refine hK _ _ ?_
  clear hK K
  obtain ⟨u10,hu10⟩:∃ x,x=w13.heap.size:=⟨_,rfl⟩
  rw [<-hu10] at R7 HO10 HXO HQ HEN ⊢
  have HP:=Lh (show Rb (stN15 (w13.alloc zSo16) u10 0 (scl15 s3 X3)) u10 (scl15 s3 X3)/\SeR (stN15 (w13.alloc zSo16) u10 0 (scl15 s3 X3)) (stN15 (w13.alloc zSo16) u10 0 (scl15 s3 X3)).heap.size s3 X3 from ⟨R7.out.stN rfl,by rw [stN15_size];exact HSE.out.stN HO10.out⟩)
  replace HX:=Lh (show Bx15 w u1 u3 a Y s X (stN15 (w13.alloc zSo16) u10 0 (scl15 s3 X3)) from HX.out.sto HQ.out.1.1 HQ.out.1.2 HXO.out.1 HXO.out.2 HQ.out.2)
  replace HE:=Lh (HE.out.sto (o:=0) (vs:=(scl15 s3 X3)) HEN.out.1 HEN.out.2 HQ.out.2)
  clear R7 HSE HO10 HXO HQ HEN
  generalize stN15 (w13.alloc zSo16) u10 0 (scl15 s3 X3)=w14 at*
  clear hu10
  try simp only [Act.put,sIA,sIB,sIC]
  refine wpList_plain rfl (fun K hK=>?_)
  go_simp
  refine hK _ _ ?_
  clear hK K
  try simp only [Act.put,sIA,sIB,sIC]
  go_upto_region 19 with (fail)
  refine wp_region_list ?_
  refine wpList_load_mid rfl 53 _ rfl u10 0 rfl (scl15 s3 X3) _ HP.out.1.range (Tryz.underlying53) rfl info_se ?_
  try simp only [Act.put,sIA,sIB,sIC]
  refine wpList_plain rfl (fun K hK=>?_)
  refine wp_store_st 53 _ _ rfl u3 (scl15 s X) (scl15 s3 X3) rfl rfl HX.out.r3 (scl15_len _ _) info_se (scl15_one _ _) ?_
  refine hK _ _ ?_
  clear hK K
  have HXF:=Lh (HX.out.putS HP.out.2 HN.out)
  have HEF:=Lh (HE.out.sto3 (o:=0) (vs:=(scl15 s3 X3)) HX.out.ne.2.1)
  clear HX HE HP HN
  generalize stN15 w14 u3 0 (scl15 s3 X3)=w15 at*
  try simp only [Act.put,sIA,sIB,sIC]
  have hwn:=HWN.out
  have HGF:=Lh (show AOff a Y g/\ROff (s3.rows X3) g from ⟨HGA.out.1,HGO.out g rfl⟩)
  go_wp2
  go_roundw
  case rel=>exact ⟨k+1,p3,r3,a,Y,s3,X3,by first | rfl | (simp;done) | go_num,HNP,HXF,HEF,HGF⟩
  case measure=>have:=HLE.out;simp [intOf];omega
end Go.Proofs.YtkecnihgjepfeaaGreat
