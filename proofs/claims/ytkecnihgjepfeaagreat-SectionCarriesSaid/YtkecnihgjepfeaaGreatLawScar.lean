/- What is proved here: shardqueuelaw15.SectionCarries returns true for every input and leaves its argument as it was. No condition. -/
import Derived.Test.YtkecnihgjepfeaaGreatJ52
import Derived.Test.YtkecnihgjepfeaaGreatJ47
import Derived.Test.YtkecnihgjepfeaaGreatJ21
import Derived.Test.YtkecnihgjepfeaaGreatJ22
import Derived.ProofKit
import Derived.OpenShut
import Derived.ChangeOld
import Derived.Deep.DeepCutAuto
import Derived.Deep.RegionHeld3
namespace Go.Proofs.YtkecnihgjepfeaaGreat
open Go.RowKit
set_option linter.unusedVariables false
set_option linter.unusedSimpArgs false
set_option maxHeartbeats 8000000
set_option maxRecDepth 20000
structure Lc16 (C:Cx15) (k:Nat) (OD:List Int) (CL:List Msg) (p:Px15) (r:Nat) (a:Ar) (s:Se):Prop where
 rk:Rk15 C p r
 hx:Hx15 C p a s
 n:k+r<=40
 d:p.dc=true->p.od=OD/\p.oc=CL
theorem SectionCarries_walk (w:World) (a1:Option Addr) (l1 c1:Nat) (zs:List Int) (hz:Ns w w.heap.size (.slice a1 l1 c1) zs) :
  Calls Tryz.prog 4 #[.slice a1 l1 c1] w fun e w'=>e=.returned (.bool true)/\Below w.heap.size w w':=by
 have HNS:=Lh (new_src a1 l1 c1 zs w hz)
 have HAW:=Lh (fun W=>awake15_any W)
 obtain ⟨hE,N,hN,hN6,hsl,hcx⟩:=cx_nw (s:=⟨2,2,3,2,1,0,1,0⟩) (by decide)
 have hN2:N=2:=hN
 subst hN2
 obtain ⟨hC,hE15,hx0⟩:=hcx [0,1] 1 1 (okc_2 (by decide) (by decide) (by decide)) ⟨by decide,by decide⟩ ⟨by decide,by decide⟩ ⟨by decide,by decide⟩
 have HNW:=Lh (fun W=>anew_any ⟨2,2,3,2,1,0,1,0⟩ W)
 rw [hE] at HNW
 have HSN:=Lh (fun A c W hf=>unew15_any A c [0,1] 1 W hf)
 rw [hE15] at HSN
 obtain ⟨C,hCe⟩:∃ C:Cx15,C=⟨2,[0,1],1,1,nwA ⟨2,2,3,2,1,0,1,0⟩⟩:=⟨_,rfl⟩
 rw [<-hCe] at hC hx0
 have HCT:=Lh (show C.t=1/\C.cs.length=2/\C.cs=[0,1] by rw [hCe];exact ⟨rfl,rfl,rfl⟩)
 obtain ⟨A0,hA0⟩:∃ A,A=nwA ⟨2,2,3,2,1,0,1,0⟩:=⟨_,rfl⟩
 obtain ⟨S0,hS0⟩:∃ S,S=nwS15 [0,1] 1:=⟨_,rfl⟩
 rw [<-hA0] at HNW hx0
 rw [<-hS0] at HSN hx0
 have HX0:=Lh hx0
 have HCK:=Lh hC
 clear hE hN hN6 hsl hcx hC hE15 hx0 hCe hA0 hS0 hz
 go_enter Tryz.func4,Tryz.ntmps4
 go_wp2_with fail
 refine HNS.out.mono ?_
 rintro e w1 ⟨g,rfl,hs,hb⟩
 have HS1:=Lh (show SrcAt w1 w.heap.size g/\Below w.heap.size w w1/\w.heap.size<=g from ⟨hs,hb,hs.1⟩)
 clear hs hb HNS
 go_upto_region 2 with (fail)
 refine wp_region_list ?_
 refine wpList_plain rfl (fun K hK=>?_)
 go_simp
 refine hK _ _ ?_
 clear hK K
 try simp only [Act.put,sIA,sIB,sIC]
 refine wpList_plain rfl (fun K hK=>?_)
 go_simp
 go_at_call 6
 refine (HNW.out _).mono ?_
 rintro e w2 ⟨Y,rfl,hn,hr,hb⟩
 have HR:=Lh (Rb.start w2 zAl16 36)
 have hal:=(Below.refl w2.heap.size w2).alloc (nLR _) zAo16
 have HA1:=Lh (show AR (w2.alloc zAo16) (w2.alloc zAo16).heap.size A0 Y/\AOff A0 Y w2.heap.size/\Below w.heap.size w (w2.alloc zAo16)/\w.heap.size<=w2.heap.size from ⟨hr.up hal,hr.offs (nLR _),HS1.out.2.1.trans ((hb.trans (hal.mono hb.size)).mono HS1.out.2.1.size),Nat.le_trans HS1.out.2.1.size hb.size⟩)
 have HG1:=Lh (show SrcAt (w2.alloc zAo16) w.heap.size g/\w2.heap.size≠g/\AOff A0 Y g from ⟨(HS1.out.1.below hb).below hal,by have h1:=HS1.out.1.2.1;have h2:=hb.size;omega,hn.off HS1.out.1.2.1⟩)
 clear hn hr hb hal HS1
 refine hK _ _ ?_
 clear hK K
 try simp only [Act.put,sIA,sIB,sIC]
 iterate 4
  refine wpList_plain rfl (fun K hK=>?_)
  go_simp
  refine hK _ _ ?_
  clear hK K
  try simp only [Act.put,sIA,sIB,sIC]
 refine wpList_plain rfl (fun K hK=>?_)
 refine wp_store_st 36 _ _ rfl w2.heap.size zAl16 (acl15 A0 Y) rfl rfl HR.out (acl15_len _ _) info_ar15 (acl15_one _ _) ?_
 refine hK _ _ ?_
 clear hK K
 obtain ⟨u1,hu1⟩:∃ x,x=w2.heap.size:=⟨_,rfl⟩
 rw [<-hu1] at HR HA1 HG1 ⊢
 have HW2:=Lh (show Rb (stN15 (w2.alloc zAo16) u1 0 (acl15 A0 Y)) u1 (acl15 A0 Y)/\AR (stN15 (w2.alloc zAo16) u1 0 (acl15 A0 Y)) (stN15 (w2.alloc zAo16) u1 0 (acl15 A0 Y)).heap.size A0 Y/\AOff A0 Y u1/\Below w.heap.size w (stN15 (w2.alloc zAo16) u1 0 (acl15 A0 Y))/\w.heap.size<=u1 from ⟨HR.out.stN rfl,by rw [stN15_size];exact HA1.out.1.stN15 HA1.out.2.1 0,HA1.out.2.1,stN15_below HA1.out.2.2.1 HA1.out.2.2.2 0,HA1.out.2.2.2⟩)
 have HG2:=Lh (show SrcAt (stN15 (w2.alloc zAo16) u1 0 (acl15 A0 Y)) w.heap.size g/\u1≠g/\AOff A0 Y g from ⟨HG1.out.1.stN HG1.out.2.1 HA1.out.2.2.2 0,HG1.out.2⟩)
 clear HR HA1 HG1
 generalize stN15 (w2.alloc zAo16) u1 0 (acl15 A0 Y)=w3 at*
 clear hu1
 try simp only [Act.put,sIA,sIB,sIC]
 refine wpList_plain rfl (fun K hK=>?_)
 go_simp
 refine hK _ _ ?_
 clear hK K
 try simp only [Act.put,sIA,sIB,sIC]
 go_upto_region 3 with (fail)
 refine wp_region_list ?_
 have HFL:=Lh (show Fl (w3.alloc (.cells #[.int .i64 0,.int .i64 1] 3)) (w3.alloc (.cells #[.int .i64 0,.int .i64 1] 3)).heap.size (.slice (some ⟨w3.heap.size,0,none⟩) 2 2) [0,1] from (Rb.start w3 (ics [0,1]) 3).fl (F:=[0,1]) (nLR 2) (by unfold maxLen;decide))
 have hal0:=Lh ((Below.refl w3.heap.size w3).alloc (nLR _) (.cells #[.int .i64 0,.int .i64 1] 3))
 refine wpList_plain rfl (fun K hK=>?_)
 go_simp
 refine hK _ _ ?_
 clear hK K
 try simp only [Act.put,sIA,sIB,sIC]
 refine wpList_plain rfl (fun K hK=>?_)
 go_simp
 go_at_call 9
 refine (HSN.out _ _ _ HFL.out).mono ?_
 rintro e w4 ⟨X,rfl,hn,hr,hb⟩
 have hb2:=hal0.out.trans (hb.mono hal0.out.size)
 have HR:=Lh (Rb.start w4 zSl16 53)
 have hal:=(Below.refl w4.heap.size w4).alloc (nLR _) zSo16
 have HW3:=Lh (show (Rb (w4.alloc zSo16) u1 (acl15 A0 Y)/\AR (w4.alloc zSo16) (w4.alloc zSo16).heap.size A0 Y/\AOff A0 Y u1/\AOff A0 Y w4.heap.size)/\(SeR (w4.alloc zSo16) (w4.alloc zSo16).heap.size S0 X/\ROff (S0.rows X) u1/\ROff (S0.rows X) w4.heap.size)/\Below w.heap.size w (w4.alloc zSo16)/\w.heap.size<=u1/\w.heap.size<=w4.heap.size/\u1<w4.heap.size from
  ⟨⟨(HW2.out.1.up hb2).up hal,(HW2.out.2.1.up hb2).up hal,HW2.out.2.2.1,HW2.out.2.1.offs hb2.size⟩,⟨hr.up hal,hn.off (Nat.lt_of_lt_of_le HW2.out.1.lt hal0.out.size),hr.r.offs (nLR _)⟩,HW2.out.2.2.2.1.trans ((hb2.trans (hal.mono hb2.size)).mono HW2.out.2.2.2.1.size),HW2.out.2.2.2.2,Nat.le_trans HW2.out.2.2.2.1.size hb2.size,Nat.lt_of_lt_of_le HW2.out.1.lt hb2.size⟩)
 have HG3:=Lh (show (SrcAt (w4.alloc zSo16) w.heap.size g/\u1≠g/\AOff A0 Y g)/\w4.heap.size≠g/\ROff (S0.rows X) g from ⟨⟨(HG2.out.1.below hb2).below hal,HG2.out.2⟩,by have h1:=HG2.out.1.2.1;have h2:=hb2.size;omega,hn.off (Nat.lt_of_lt_of_le HG2.out.1.2.1 hal0.out.size)⟩)
 clear hn hr hb hb2 hal HW2 HFL hal0 HG2
 refine hK _ _ ?_
 clear hK K
 try simp only [Act.put,sIA,sIB,sIC]
 iterate 4
  refine wpList_plain rfl (fun K hK=>?_)
  go_simp
  refine hK _ _ ?_
  clear hK K
  try simp only [Act.put,sIA,sIB,sIC]
 refine wpList_plain rfl (fun K hK=>?_)
 refine wp_store_st 53 _ _ rfl w4.heap.size zSl16 (scl15 S0 X) rfl rfl HR.out (scl15_len _ _) info_se (scl15_one _ _) ?_
 refine hK _ _ ?_
 clear hK K
 obtain ⟨u3,hu3⟩:∃ x,x=w4.heap.size:=⟨_,rfl⟩
 rw [<-hu3] at HR HW3 HG3 ⊢
 have HX:=Lh (show Bx15 w u1 u3 A0 Y S0 X (stN15 (w4.alloc zSo16) u3 0 (scl15 S0 X)) from ⟨HW3.out.1.1.stNo (Nat.ne_of_gt HW3.out.2.2.2.2.2) 0,HR.out.stN rfl,by rw [stN15_size];exact HW3.out.1.2.1.stN15 HW3.out.1.2.2.2 0,by rw [stN15_size];exact HW3.out.2.1.1.stN HW3.out.2.1.2.2,HW3.out.1.2.2,HW3.out.2.1.2,⟨HW3.out.2.2.2.1,HW3.out.2.2.2.2.1,Nat.ne_of_lt HW3.out.2.2.2.2.2⟩,stN15_below HW3.out.2.2.1 HW3.out.2.2.2.2.1 0⟩)
 have HE:=Lh (show Ex16 w (some g) u1 u3 [] (stN15 (w4.alloc zSo16) u3 0 (scl15 S0 X)) from ⟨RR.nil,⟨ROff.nil,ROff.nil⟩,fun x e=>by injection e with e;subst e;exact ⟨HG3.out.1.1.stN HG3.out.2.1 HW3.out.2.2.2.2.1 0,⟨HG3.out.1.2.1,HG3.out.2.1⟩,ROff.nil⟩⟩)
 have HGO:=Lh (show AOff A0 Y g/\ROff (S0.rows X) g from ⟨HG3.out.1.2.2,HG3.out.2.2⟩)
 clear HR HW3 HG3
 generalize stN15 (w4.alloc zSo16) u3 0 (scl15 S0 X)=w5 at*
 clear hu3
 try simp only [Act.put,sIA,sIB,sIC]
 refine wpList_plain rfl (fun K hK=>?_)
 go_simp
 refine hK _ _ ?_
 clear hK K
 try simp only [Act.put,sIA,sIB,sIC]
 go_upto_region 6 with (fail)
 go_wp2_with fail
 refine (message_any w.heap.size g _ (HE.out.g g rfl).1 1 0 9).mono ?_
 rintro e w6 ⟨M1,rfl,-,-,-,-,-,-,-,hs,hg⟩
 have HX:=Lh (HX.out.turn hg (HE.out.g g rfl).2.1.1 (HE.out.g g rfl).2.1.2 HGO.out.1 HGO.out.2 (HE.out.g g rfl).1.1)
 have HE:=Lh (HE.out.turn hs hg)
 clear hs hg
 go_wp2_with fail
 refine (message_any w.heap.size g _ (HE.out.g g rfl).1 2 0 9).mono ?_
 rintro e w7 ⟨M2,rfl,-,-,-,-,-,-,-,hs,hg⟩
 have HX:=Lh (HX.out.turn hg (HE.out.g g rfl).2.1.1 (HE.out.g g rfl).2.1.2 HGO.out.1 HGO.out.2 (HE.out.g g rfl).1.1)
 have HE:=Lh (HE.out.turn hs hg)
 clear hs hg
 go_upto_region 7 with (fail)
 have HRB:=Lh (show Rb (w7.alloc (.cells #[.int .i64 M1.id,.int .i64 M1.rt,.int .i64 M1.ep,.int .i64 M1.ct,.int .i64 M1.gn,.int .i64 M1.st,.string M1.bd,.int .i64 M2.id,.int .i64 M2.rt,.int .i64 M2.ep,.int .i64 M2.ct,.int .i64 M2.gn,.int .i64 M2.st,.string M2.bd] 79)) w7.heap.size (lcs [M1,M2]) from Rb.start w7 (lcs [M1,M2]) 79)
 have hal:=(Below.refl w7.heap.size w7).alloc (nLR _) (.cells #[.int .i64 M1.id,.int .i64 M1.rt,.int .i64 M1.ep,.int .i64 M1.ct,.int .i64 M1.gn,.int .i64 M1.st,.string M1.bd,.int .i64 M2.id,.int .i64 M2.rt,.int .i64 M2.ep,.int .i64 M2.ct,.int .i64 M2.gn,.int .i64 M2.st,.string M2.bd] 79)
 have HBN:=Lh (show w7.heap.size≠u1/\w7.heap.size≠u3/\w7.heap.size≠g from ⟨by have:=HX.out.r1.lt;omega,by have:=HX.out.r3.lt;omega,by have:=(HE.out.g g rfl).1.2.1;omega⟩)
 have HX:=Lh (HX.out.up hal)
 have HE:=Lh (HE.out.up hal)
 clear hal
 obtain ⟨bc,hbc⟩:∃ x,x=w7.heap.size:=⟨_,rfl⟩
 rw [<-hbc] at HRB HBN ⊢
 clear hbc
 generalize w7.alloc (.cells #[.int .i64 M1.id,.int .i64 M1.rt,.int .i64 M1.ep,.int .i64 M1.ct,.int .i64 M1.gn,.int .i64 M1.st,.string M1.bd,.int .i64 M2.id,.int .i64 M2.rt,.int .i64 M2.ep,.int .i64 M2.ct,.int .i64 M2.gn,.int .i64 M2.st,.string M2.bd] 79)=w8 at*
 obtain ⟨CL,hCL⟩:∃ CL,CL=[M1,M2]:=⟨_,rfl⟩
 have HCL:=Lh (show CL.length=2 by rw [hCL];rfl)
 rw [<-hCL] at HRB
 clear hCL
 have HE:=Lh (show Ex16 w (some g) u1 u3 [⟨7,some ⟨bc,0,none⟩,CL.length,lcs CL⟩] w8 from ⟨row1_rr HRB.out (lcs_len CL),⟨row1_off HBN.out.1,row1_off HBN.out.2.1⟩,fun x e=>by injection e with e;subst e;exact ⟨(HE.out.g g rfl).1,(HE.out.g g rfl).2.1,row1_off HBN.out.2.2⟩⟩)
 clear HRB
 go_wp2_with fail
 refine (n_any w.heap.size g _ (HE.out.g g rfl).1 3 (by omega) (by omega)).mono ?_
 rintro e w9 ⟨x,rfl,-,-,hs,hg⟩
 have HX:=Lh (HX.out.turn hg (HE.out.g g rfl).2.1.1 (HE.out.g g rfl).2.1.2 HGO.out.1 HGO.out.2 (HE.out.g g rfl).1.1)
 have HE:=Lh (HE.out.turn hs hg)
 have HE:=Lh (show Ex16 w none u1 u3 [⟨7,some ⟨bc,0,none⟩,CL.length,lcs CL⟩] w9 from ⟨HE.out.r,HE.out.o,fun g e=>absurd e (by simp)⟩)
 clear hs hg
 go_upto_region 8 with (fail)
 generalize (x==0)=b at*
 obtain ⟨OD,hOD⟩:∃ OD:List Int,OD=if b=true then [1] else [1,0]:=⟨_,rfl⟩
 have HOD:=Lh (show (b=true->OD=[1])/\(b=false->OD=[1,0]) from ⟨fun h=>by rw [hOD,if_pos h],fun h=>by rw [hOD,h];rfl⟩)
 have HO:=Lh (show Od15 C OD CL from by
  have h2:=HCT.out.2.1
  rw [hOD]
  refine ⟨?_,by rw [HCL.out];decide,?_⟩
  ·rw [h2];split <;> decide
  ·rw [h2]
   split
   ·intro i hi
    obtain rfl:i=0:=by have:i<1:=hi;omega
    exact ⟨by decide,by decide⟩
   ·intro i hi
    have hi2:i<2:=hi
    match i,hi2 with
    | 0,_=>exact ⟨by decide,by decide⟩
    | 1,_=>exact ⟨by decide,by decide⟩)
 clear hOD
 go_wp2
 go_loopw [10] (fun iv wr=>∃ (k:Nat) (p:Px15) (r:Nat) (a:Ar) (Y:Ax) (s:Se) (X:Sex),iv=.int .i64 ((k:Int)+1)/\Hid (Lc16 C k OD CL p r a s)/\Hid (Bx15 w u1 u3 a Y s X wr)/\Hid (Ex16 w none u1 u3 [⟨7,some ⟨bc,0,none⟩,CL.length,lcs CL⟩] wr)) (fun iv _=>43 - (intOf iv).toNat)
 case atStart=>
  refine ⟨0,pL15 0,_,A0,Y,S0,X,rfl,Lh ⟨Rk15.lk (C:=C) (h:=0) (by rw [HCT.out.2.1];decide),HX0.out,?_,fun h=>absurd h (by decide)⟩,HX,HE⟩
  have:=rk_le HCK.out (Rk15.lk (C:=C) (h:=0) (by rw [HCT.out.2.1];decide))
  omega
 case round=>
  clear HX HE HX0 HGO HBN HNW HSN
  obtain ⟨k,p,r,a,Y,s,X,rfl,HL,HX,HE⟩:=hrel
  have HFX:=Lh (rk_fx HCK.out HL.out.rk)
  have HPH:=Lh (show s.ph=p.ph from HL.out.hx.2.ph)
  by_cases h9:p.ph=9
  ·have c0:wr.cell? ⟨u3,0,none⟩=some (.int .i64 9):=by rw [<-h9,<-HPH.out];exact HX.out.r3.c 0 _ rfl
   have yl:=HX.out.r3.lt
   have HF:=Lh HX.out.bel
   have HW:=Lh (fun e w' (h:e=Ending.returned (Value.bool true)/\Below wr.heap.size wr w')=>(And.intro h.1 (HF.out.trans (h.2.mono HF.out.size)):e=Ending.returned (Value.bool true)/\Below w.heap.size w w'))
   clear h9 HL HX HE HFX HPH
   by_cases hle:(k:Int)+1<=40
   all_goals
    go_wp2_with fail
    refine (HAW.out _).mono ?_
    rintro e w10 ⟨rfl,hb⟩
    have HFI:=Lh (HF.out.trans (hb.mono HF.out.size))
    clear hb c0 yl
    go_wp2
    go_ret
    exact ⟨rfl,HFI.out⟩
  ·have HLE:=Lh (show k+r<=40/\1<=r from ⟨HL.out.n,HFX.out.r0 h9⟩)
   have hle:(k:Int)+1<=40:=by have:=HLE.out;omega
   have hne9:(s.ph != 9)=true:=by rw [HPH.out];simpa using h9
   have HN9:=Lh h9
   have c0:wr.cell? ⟨u3,0,none⟩=some (.int .i64 s.ph):=HX.out.r3.c 0 _ rfl
   have yl:=HX.out.r3.lt
   clear h9
   go_upto_if 55 with (fail)
   clear c0 yl hne9 hle
   go_cut [11,12,13] from 44 to 117 (fun _ _ _ wx=>∃ (p' : Px15) (r' : Nat) (s' : Se) (X' : Sex),Hid (Rk15 C p' r'/\(r'<=r/\1<=r')/\Hx15 C p' a s'/\(p'.dc=true->p'.od=OD/\p'.oc=CL)/\p'.ph≠4/\p'.ph≠9)/\Hid (Bx15 w u1 u3 a Y s' X' wx)/\Hid (Ex16 w none u1 u3 [⟨7,some ⟨bc,0,none⟩,CL.length,lcs CL⟩] wx))
   case first=>
    by_cases h4:s.ph=4
    ·have hb4:(s.ph==4)=true:=by simp [h4]
     have HPE:=Lh (HFX.out.e (HPH.out ▸ h4))
     have HHX:=Lh (show Hx15 C (pE15 C) a s by rw [<-HPE.out.1];exact HL.out.hx)
     have HUN:=Lh (fun W (h:SeR W W.heap.size s X)=>uunch_any s X W h (HL.out.hx.2.smc HCK.out))
     clear h4
     go_upto_region 12 with (fail)
     clear hb4
     refine wp_region_list ?_
     refine wpList_load_mid rfl 53 _ rfl u3 0 rfl (scl15 s X) _ HX.out.r3.range (Tryz.underlying53) rfl info_se ?_
     try simp only [Act.put,sIA,sIB,sIC]
     refine wpList_plain rfl (fun K hK=>?_)
     go_simp
     go_at_call 10
     refine (HUN.out _ HX.out.se).mono ?_
     rintro e w10 ⟨ZU,rfl,hnu,hou,hb⟩
     have R9:=Lh (Rb.start w10 zOl16 51)
     have hal:=(Below.refl w10.heap.size w10).alloc (nLR _) zOo16
     have HO9:=Lh (show (OuR (w10.alloc zOo16) (w10.alloc zOo16).heap.size (unP s) ZU/\ROff ((unP s).rows ZU) w10.heap.size)/\u1<w10.heap.size/\u3<w10.heap.size/\w.heap.size<=w10.heap.size from ⟨⟨hou.up hal,hou.r.offs (nLR _)⟩,Nat.lt_of_lt_of_le HX.out.r1.lt hb.size,Nat.lt_of_lt_of_le HX.out.r3.lt hb.size,Nat.le_trans HX.out.bel.size hb.size⟩)
     have HBU:=Lh ((HE.out.up hb).r.offs (nLR w10.heap.size))
     have HEN:=Lh ((HE.out.up hb).new (u:=w10.heap.size) (nLR _))
     replace HE:=Lh ((HE.out.up hb).up hal)
     have HXO:=Lh (And.intro ((HX.out.ar.up hb).offs (nLR w10.heap.size)) ((HX.out.se.up hb).r.offs (nLR w10.heap.size)))
     replace HX:=Lh ((HX.out.up hb).up hal)
     clear hnu hou hb hal
     refine hK _ _ ?_
     clear hK K
     try simp only [Act.put,sIA,sIB,sIC]
     refine wpList_plain rfl (fun K hK=>?_)
     go_simp
     refine hK _ _ ?_
     clear hK K
     try simp only [Act.put,sIA,sIB,sIC]
     refine wpList_plain rfl (fun K hK=>?_)
     refine wp_store_st 51 _ _ rfl w10.heap.size zOl16 (ocl15 (unP s) ZU) rfl rfl R9.out rfl info_ou15 (ocl15_one _ _) ?_
     refine hK _ _ ?_
     clear hK K
     obtain ⟨u9,hu9⟩:∃ x,x=w10.heap.size:=⟨_,rfl⟩
     rw [<-hu9] at R9 HO9 HXO HEN HBU ⊢
     have HR9:=Lh (show Rb (stN15 (w10.alloc zOo16) u9 0 (ocl15 (unP s) ZU)) u9 (ocl15 (unP s) ZU)/\OuR (stN15 (w10.alloc zOo16) u9 0 (ocl15 (unP s) ZU)) (stN15 (w10.alloc zOo16) u9 0 (ocl15 (unP s) ZU)).heap.size (unP s) ZU from ⟨R9.out.stN rfl,⟨by rw [stN15_size];exact HO9.out.1.1.r.stN HO9.out.1.2 0,HO9.out.1.1.ok⟩⟩)
     have HX9:=Lh (show Bx15 w u1 u3 a Y s X (stN15 (w10.alloc zOo16) u9 0 (ocl15 (unP s) ZU)) from HX.out.sto (Nat.ne_of_gt HO9.out.2.1) (Nat.ne_of_gt HO9.out.2.2.1) HXO.out.1 HXO.out.2 HO9.out.2.2.2)
     have HE9:=Lh (HE.out.sto (o:=0) (vs:=ocl15 (unP s) ZU) HEN.out.1 HEN.out.2 HO9.out.2.2.2)
     have HOB:=Lh (show Ob16 (stN15 (w10.alloc zOo16) u9 0 (ocl15 (unP s) ZU)) u9 (unP s) ZU from ⟨HR9.out.1,HR9.out.2,HO9.out.1.2⟩)
     clear R9 HX HE HR9
     generalize stN15 (w10.alloc zOo16) u9 0 (ocl15 (unP s) ZU)=w11 at*
     clear hu9
     try simp only [Act.put,sIA,sIB,sIC]
     have d3:=HOB.out.rb.c 3 _ rfl
     have d4:=HOB.out.rb.c 4 _ rfl
     have f3:=HOB.out.rb.f 3
     have f4:=HOB.out.rb.f 4
     have ul:=HOB.out.rb.lt
     go_upto_region 14 with (fail)
     clear d3 d4 f3 f4 ul
     obtain ⟨v9,hv9⟩:∃ x,x=w11.heap.size:=⟨_,rfl⟩
     have HO1:=HOB.out.car (L:=CL) (A:=some ⟨bc,0,none⟩) (c:=2) HE9.out.r HBU.out (by rw [HCL.out];exact nLR 2) (by unfold maxLen;decide)
     rw [HCL.out] at HO1
     have HO2:=HO1.ord [1,0] 3 (by unfold maxLen;decide)
     rw [show (w11.setCell ⟨u9,4,none⟩ (.slice (some ⟨bc,0,none⟩) 2 2)).heap.size=w11.heap.size by simp,<-hv9] at HO2
     have hal:=(Below.refl ((w11.setCell ⟨u9,4,none⟩ (.slice (some ⟨bc,0,none⟩) 2 2)).setCell ⟨u9,3,none⟩ (.slice (some ⟨v9,0,none⟩) 2 2)).heap.size _).alloc (nLR _) (.cells #[.int .i64 1,.int .i64 0] 3)
     have HX:=Lh (show Bx15 w u1 u3 a Y s X (((w11.setCell ⟨u9,4,none⟩ (.slice (some ⟨bc,0,none⟩) 2 2)).setCell ⟨u9,3,none⟩ (.slice (some ⟨v9,0,none⟩) 2 2)).alloc (.cells #[.int .i64 1,.int .i64 0] 3)) from ((HX9.out.sto (o:=4) (vs:=[.slice (some ⟨bc,0,none⟩) 2 2]) (Nat.ne_of_gt HO9.out.2.1) (Nat.ne_of_gt HO9.out.2.2.1) HXO.out.1 HXO.out.2 HO9.out.2.2.2).sto (o:=3) (vs:=[.slice (some ⟨v9,0,none⟩) 2 2]) (Nat.ne_of_gt HO9.out.2.1) (Nat.ne_of_gt HO9.out.2.2.1) HXO.out.1 HXO.out.2 HO9.out.2.2.2).up hal)
     have HE:=Lh (show Ex16 w none u1 u3 [⟨7,some ⟨bc,0,none⟩,CL.length,lcs CL⟩] (((w11.setCell ⟨u9,4,none⟩ (.slice (some ⟨bc,0,none⟩) 2 2)).setCell ⟨u9,3,none⟩ (.slice (some ⟨v9,0,none⟩) 2 2)).alloc (.cells #[.int .i64 1,.int .i64 0] 3)) from ((HE9.out.sto (o:=4) (vs:=[.slice (some ⟨bc,0,none⟩) 2 2]) HEN.out.1 HEN.out.2 HO9.out.2.2.2).sto (o:=3) (vs:=[.slice (some ⟨v9,0,none⟩) 2 2]) HEN.out.1 HEN.out.2 HO9.out.2.2.2).up hal)
     have HOB:=Lh (show Ob16 (((w11.setCell ⟨u9,4,none⟩ (.slice (some ⟨bc,0,none⟩) 2 2)).setCell ⟨u9,3,none⟩ (.slice (some ⟨v9,0,none⟩) 2 2)).alloc (.cells #[.int .i64 1,.int .i64 0] 3)) u9 ⟨s.sh,s.dc,s.dl,[1,0],CL,[]⟩ _ from HO2)
     rw [<-hv9]
     clear HO1 HO2 hal hv9 HX9 HE9
     generalize ((w11.setCell ⟨u9,4,none⟩ (.slice (some ⟨bc,0,none⟩) 2 2)).setCell ⟨u9,3,none⟩ (.slice (some ⟨v9,0,none⟩) 2 2)).alloc (.cells #[.int .i64 1,.int .i64 0] 3)=w12 at*
     generalize ({ ({ ZU with Ac:=some ⟨bc,0,none⟩,cc:=2 }:Oux) with Ao:=some ⟨v9,0,none⟩,co:=[(1:Int),0].length }:Oux)=Z1 at HOB
     cases b with
     | false=>
      have hod:=HOD.out.2 rfl
      rw [<-hod] at HOB
      clear hod
      obtain ⟨Z2,hZ2⟩:∃ Z,Z=Z1:=⟨_,rfl⟩
      rw [<-hZ2] at HOB
      clear hZ2
      obtain ⟨p3,r3,s3,hrk,hle,hd,hhx,hcall⟩:=hx_decide HCK.out HHX.out HO.out (Z:=Z2) HX.out.se HOB.out.ou
      have HDC:=Lh hcall
      have HNP:=Lh (show Rk15 C p3 r3/\(r3<=r/\1<=r3)/\Hx15 C p3 a s3/\(p3.dc=true->p3.od=OD/\p3.oc=CL)/\p3.ph≠4/\p3.ph≠9 from ⟨hrk,⟨by have:=HPE.out.2;omega,(rk_fx HCK.out hrk).r0 hd.2.2.2.2⟩,hhx,fun _=>⟨hd.2.1,hd.2.2.1⟩,hd.2.2.2⟩)
      clear hrk hle hd hhx hcall HUN
      go_upto_region 16 with (fail)
      refine wp_region_list ?_
      refine wpList_load_mid rfl 53 _ rfl u3 0 rfl (scl15 s X) _ HX.out.r3.range (Tryz.underlying53) rfl info_se ?_
      try simp only [Act.put,sIA,sIB,sIC]
      refine wpList_load_mid rfl 51 _ rfl u9 0 rfl (ocl15 (⟨s.sh,s.dc,s.dl,OD,CL,[]⟩:Ou) Z2) _ HOB.out.rb.range (Tryz.underlying51) rfl info_ou15 ?_
      try simp only [Act.put,sIA,sIB,sIC]
      refine wpList_plain rfl (fun K hK=>?_)
      go_simp
      go_at_call 12
      refine (HDC.out).mono ?_
      rintro e w13 ⟨X3,rfl,hxn,hse,hb⟩
      have R7:=Lh (Rb.start w13 zSl16 53)
      have hal:=(Below.refl w13.heap.size w13).alloc (nLR _) zSo16
      have HN:=Lh (show ROff (s3.rows X3) u1/\ROff (s3.rows X3) u3 from ⟨hxn.off HX.out.r1.lt,hxn.off HX.out.r3.lt⟩)
      have HGO:=Lh (show ∀ g,none=some g->ROff (s3.rows X3) g from fun g e=>hxn.off (HE.out.g g e).1.2.1)
      have HO10:=Lh (show ROff (s3.rows X3) w13.heap.size from hse.r.offs (nLR _))
      have HXO:=Lh (And.intro ((HX.out.ar.up hb).offs (nLR w13.heap.size)) ((HX.out.se.up hb).r.offs (nLR w13.heap.size)))
      have HQ:=Lh (show (w13.heap.size≠u1/\w13.heap.size≠u3)/\w.heap.size<=w13.heap.size from ⟨⟨Nat.ne_of_gt (Nat.lt_of_lt_of_le HX.out.r1.lt hb.size),Nat.ne_of_gt (Nat.lt_of_lt_of_le HX.out.r3.lt hb.size)⟩,Nat.le_trans HX.out.bel.size hb.size⟩)
      have HEN:=Lh ((HE.out.up hb).new (u:=w13.heap.size) (nLR _))
      have HSE:=Lh (hse.up hal)
      replace HE:=Lh ((HE.out.up hb).up hal)
      replace HX:=Lh ((HX.out.up hb).up hal)
      clear hxn hse hb hal HOB
      refine hK _ _ ?_
      clear hK K
      try simp only [Act.put,sIA,sIB,sIC]
      iterate 4
       refine wpList_plain rfl (fun K hK=>?_)
       go_simp
       refine hK _ _ ?_
       clear hK K
       try simp only [Act.put,sIA,sIB,sIC]
      refine wpList_plain rfl (fun K hK=>?_)
      refine wp_store_st 53 _ _ rfl w13.heap.size zSl16 (scl15 s3 X3) rfl rfl R7.out (scl15_len _ _) info_se (scl15_one _ _) ?_
      refine hK _ _ ?_
      clear hK K
      obtain ⟨u10,hu10⟩:∃ x,x=w13.heap.size:=⟨_,rfl⟩
      rw [<-hu10] at R7 HO10 HXO HQ HEN ⊢
      have HP:=Lh (show Rb (stN15 (w13.alloc zSo16) u10 0 (scl15 s3 X3)) u10 (scl15 s3 X3)/\SeR (stN15 (w13.alloc zSo16) u10 0 (scl15 s3 X3)) (stN15 (w13.alloc zSo16) u10 0 (scl15 s3 X3)).heap.size s3 X3 from ⟨R7.out.stN rfl,by rw [stN15_size];exact HSE.out.stN HO10.out⟩)
      replace HX:=Lh (show Bx15 w u1 u3 a Y s X (stN15 (w13.alloc zSo16) u10 0 (scl15 s3 X3)) from HX.out.sto HQ.out.1.1 HQ.out.1.2 HXO.out.1 HXO.out.2 HQ.out.2)
      replace HE:=Lh (HE.out.sto (o:=0) (vs:=(scl15 s3 X3)) HEN.out.1 HEN.out.2 HQ.out.2)
      clear R7 HSE HO10 HXO HQ HEN
      generalize stN15 (w13.alloc zSo16) u10 0 (scl15 s3 X3)=w14 at*
      clear hu10
      try simp only [Act.put,sIA,sIB,sIC]
      refine wpList_plain rfl (fun K hK=>?_)
      go_simp
      refine hK _ _ ?_
      clear hK K
      try simp only [Act.put,sIA,sIB,sIC]
      go_upto_region 19 with (fail)
      refine wp_region_list ?_
      refine wpList_load_mid rfl 53 _ rfl u10 0 rfl (scl15 s3 X3) _ HP.out.1.range (Tryz.underlying53) rfl info_se ?_
      try simp only [Act.put,sIA,sIB,sIC]
      refine wpList_plain rfl (fun K hK=>?_)
      refine wp_store_st 53 _ _ rfl u3 (scl15 s X) (scl15 s3 X3) rfl rfl HX.out.r3 (scl15_len _ _) info_se (scl15_one _ _) ?_
      refine hK _ _ ?_
      clear hK K
      have HXF:=Lh (HX.out.putS HP.out.2 HN.out)
      have HEF:=Lh (HE.out.sto3 (o:=0) (vs:=(scl15 s3 X3)) HX.out.ne.2.1)
      clear HX HE HP HN
      generalize stN15 w14 u3 0 (scl15 s3 X3)=w15 at*
      try simp only [Act.put,sIA,sIB,sIC]
      go_wp2
      go_meet
      exact ⟨p3,r3,s3,X3,HNP,HXF,HEF⟩
     | true=>
      have d3:=HOB.out.rb.c 3 _ rfl
      have f3:=HOB.out.rb.f 3
      have ul:=HOB.out.rb.lt
      go_upto_region 16 with (fail)
      clear d3 f3 ul
      obtain ⟨v8,hv8⟩:∃ x,x=w12.heap.size:=⟨_,rfl⟩
      have HO2:=HOB.out.ord [1] 3 (by unfold maxLen;decide)
      rw [<-hv8] at HO2
      have hal:=(Below.refl (w12.setCell ⟨u9,3,none⟩ (.slice (some ⟨v8,0,none⟩) 1 1)).heap.size _).alloc (nLR _) (.cells #[.int .i64 1] 3)
      have HX:=Lh (show Bx15 w u1 u3 a Y s X ((w12.setCell ⟨u9,3,none⟩ (.slice (some ⟨v8,0,none⟩) 1 1)).alloc (.cells #[.int .i64 1] 3)) from (HX.out.sto (o:=3) (vs:=[.slice (some ⟨v8,0,none⟩) 1 1]) (Nat.ne_of_gt HO9.out.2.1) (Nat.ne_of_gt HO9.out.2.2.1) HXO.out.1 HXO.out.2 HO9.out.2.2.2).up hal)
      have HE:=Lh (show Ex16 w none u1 u3 [⟨7,some ⟨bc,0,none⟩,CL.length,lcs CL⟩] ((w12.setCell ⟨u9,3,none⟩ (.slice (some ⟨v8,0,none⟩) 1 1)).alloc (.cells #[.int .i64 1] 3)) from (HE.out.sto (o:=3) (vs:=[.slice (some ⟨v8,0,none⟩) 1 1]) HEN.out.1 HEN.out.2 HO9.out.2.2.2).up hal)
      have HOB:=Lh (show Ob16 ((w12.setCell ⟨u9,3,none⟩ (.slice (some ⟨v8,0,none⟩) 1 1)).alloc (.cells #[.int .i64 1] 3)) u9 ⟨s.sh,s.dc,s.dl,[1],CL,[]⟩ _ from HO2)
      rw [<-hv8]
      clear HO2 hal hv8
      generalize (w12.setCell ⟨u9,3,none⟩ (.slice (some ⟨v8,0,none⟩) 1 1)).alloc (.cells #[.int .i64 1] 3)=w16 at*
      generalize ({ Z1 with Ao:=some ⟨v8,0,none⟩,co:=[(1:Int)].length }:Oux)=Z2 at HOB
      have hod:=HOD.out.1 rfl
      rw [<-hod] at HOB
      clear hod
      obtain ⟨p3,r3,s3,hrk,hle,hd,hhx,hcall⟩:=hx_decide HCK.out HHX.out HO.out (Z:=Z2) HX.out.se HOB.out.ou
      have HDC:=Lh hcall
      have HNP:=Lh (show Rk15 C p3 r3/\(r3<=r/\1<=r3)/\Hx15 C p3 a s3/\(p3.dc=true->p3.od=OD/\p3.oc=CL)/\p3.ph≠4/\p3.ph≠9 from ⟨hrk,⟨by have:=HPE.out.2;omega,(rk_fx HCK.out hrk).r0 hd.2.2.2.2⟩,hhx,fun _=>⟨hd.2.1,hd.2.2.1⟩,hd.2.2.2⟩)
      clear hrk hle hd hhx hcall HUN
      refine wp_region_list ?_
      refine wpList_load_mid rfl 53 _ rfl u3 0 rfl (scl15 s X) _ HX.out.r3.range (Tryz.underlying53) rfl info_se ?_
      try simp only [Act.put,sIA,sIB,sIC]
      refine wpList_load_mid rfl 51 _ rfl u9 0 rfl (ocl15 (⟨s.sh,s.dc,s.dl,OD,CL,[]⟩:Ou) Z2) _ HOB.out.rb.range (Tryz.underlying51) rfl info_ou15 ?_
      try simp only [Act.put,sIA,sIB,sIC]
      refine wpList_plain rfl (fun K hK=>?_)
      go_simp
      go_at_call 12
      refine (HDC.out).mono ?_
      rintro e w13 ⟨X3,rfl,hxn,hse,hb⟩
      have R7:=Lh (Rb.start w13 zSl16 53)
      have hal:=(Below.refl w13.heap.size w13).alloc (nLR _) zSo16
      have HN:=Lh (show ROff (s3.rows X3) u1/\ROff (s3.rows X3) u3 from ⟨hxn.off HX.out.r1.lt,hxn.off HX.out.r3.lt⟩)
      have HGO:=Lh (show ∀ g,none=some g->ROff (s3.rows X3) g from fun g e=>hxn.off (HE.out.g g e).1.2.1)
      have HO10:=Lh (show ROff (s3.rows X3) w13.heap.size from hse.r.offs (nLR _))
      have HXO:=Lh (And.intro ((HX.out.ar.up hb).offs (nLR w13.heap.size)) ((HX.out.se.up hb).r.offs (nLR w13.heap.size)))
      have HQ:=Lh (show (w13.heap.size≠u1/\w13.heap.size≠u3)/\w.heap.size<=w13.heap.size from ⟨⟨Nat.ne_of_gt (Nat.lt_of_lt_of_le HX.out.r1.lt hb.size),Nat.ne_of_gt (Nat.lt_of_lt_of_le HX.out.r3.lt hb.size)⟩,Nat.le_trans HX.out.bel.size hb.size⟩)
      have HEN:=Lh ((HE.out.up hb).new (u:=w13.heap.size) (nLR _))
      have HSE:=Lh (hse.up hal)
      replace HE:=Lh ((HE.out.up hb).up hal)
      replace HX:=Lh ((HX.out.up hb).up hal)
      clear hxn hse hb hal HOB
      refine hK _ _ ?_
      clear hK K
      try simp only [Act.put,sIA,sIB,sIC]
      iterate 4
       refine wpList_plain rfl (fun K hK=>?_)
       go_simp
       refine hK _ _ ?_
       clear hK K
       try simp only [Act.put,sIA,sIB,sIC]
      refine wpList_plain rfl (fun K hK=>?_)
      refine wp_store_st 53 _ _ rfl w13.heap.size zSl16 (scl15 s3 X3) rfl rfl R7.out (scl15_len _ _) info_se (scl15_one _ _) ?_
      refine hK _ _ ?_
      clear hK K
      obtain ⟨u10,hu10⟩:∃ x,x=w13.heap.size:=⟨_,rfl⟩
      rw [<-hu10] at R7 HO10 HXO HQ HEN ⊢
      have HP:=Lh (show Rb (stN15 (w13.alloc zSo16) u10 0 (scl15 s3 X3)) u10 (scl15 s3 X3)/\SeR (stN15 (w13.alloc zSo16) u10 0 (scl15 s3 X3)) (stN15 (w13.alloc zSo16) u10 0 (scl15 s3 X3)).heap.size s3 X3 from ⟨R7.out.stN rfl,by rw [stN15_size];exact HSE.out.stN HO10.out⟩)
      replace HX:=Lh (show Bx15 w u1 u3 a Y s X (stN15 (w13.alloc zSo16) u10 0 (scl15 s3 X3)) from HX.out.sto HQ.out.1.1 HQ.out.1.2 HXO.out.1 HXO.out.2 HQ.out.2)
      replace HE:=Lh (HE.out.sto (o:=0) (vs:=(scl15 s3 X3)) HEN.out.1 HEN.out.2 HQ.out.2)
      clear R7 HSE HO10 HXO HQ HEN
      generalize stN15 (w13.alloc zSo16) u10 0 (scl15 s3 X3)=w14 at*
      clear hu10
      try simp only [Act.put,sIA,sIB,sIC]
      refine wpList_plain rfl (fun K hK=>?_)
      go_simp
      refine hK _ _ ?_
      clear hK K
      try simp only [Act.put,sIA,sIB,sIC]
      go_upto_region 19 with (fail)
      refine wp_region_list ?_
      refine wpList_load_mid rfl 53 _ rfl u10 0 rfl (scl15 s3 X3) _ HP.out.1.range (Tryz.underlying53) rfl info_se ?_
      try simp only [Act.put,sIA,sIB,sIC]
      refine wpList_plain rfl (fun K hK=>?_)
      refine wp_store_st 53 _ _ rfl u3 (scl15 s X) (scl15 s3 X3) rfl rfl HX.out.r3 (scl15_len _ _) info_se (scl15_one _ _) ?_
      refine hK _ _ ?_
      clear hK K
      have HXF:=Lh (HX.out.putS HP.out.2 HN.out)
      have HEF:=Lh (HE.out.sto3 (o:=0) (vs:=(scl15 s3 X3)) HX.out.ne.2.1)
      clear HX HE HP HN
      generalize stN15 w14 u3 0 (scl15 s3 X3)=w15 at*
      try simp only [Act.put,sIA,sIB,sIC]
      go_wp2
      go_meet
      exact ⟨p3,r3,s3,X3,HNP,HXF,HEF⟩
    ·have hb4:(s.ph==4)=false:=by simp [h4]
     go_wp2
     go_meet
     exact ⟨p,r,s,X,Lh ⟨HL.out.rk,⟨nLR _,HLE.out.2⟩,HL.out.hx,HL.out.d,fun h=>h4 (HPH.out.trans h),HN9.out⟩,HX,HE⟩
   case rest=>
    clear HL HX HE HFX HPH HN9
    obtain ⟨p,r2,s,X,HNP,HX,HE⟩:=hcut
    have HLB:=Lh (show Lc16 C k OD CL p r2 a s/\1<=r2/\p.ph≠4/\p.ph≠9 from ⟨⟨HNP.out.1,HNP.out.2.2.1,by have h1:=HLE.out;have h2:=HNP.out.2.1;omega,HNP.out.2.2.2.1⟩,HNP.out.2.1.2,HNP.out.2.2.2.2⟩)
    clear HNP HLE
    generalize wc=w4 at*
    go_upto_region 20 with (fail)
    obtain ⟨p2,r3,hrk,hle,hsm,a2,s2,hhx,hcall⟩:=hx_step (n:=(k:Int)+1) HCK.out HLB.out.1.rk HLB.out.1.hx HLB.out.2.2.1 HLB.out.2.2.2 HX.out.ar HX.out.se
    rw [HCT.out.1] at hcall
    have HST:=Lh hcall
    have HL2:=Lh (show Lc16 C (k+1) OD CL p2 r3 a2 s2 from ⟨hrk,hhx,by have:=HLB.out.1.n;omega,fun h=>by
     cases hd:p.dc with
     | false=>rw [hsm.1 hd] at h;cases h
     | true=>have h1:=hsm.2 hd;have h2:=HLB.out.1.d hd;exact ⟨h1.2.1.trans h2.1,h1.2.2.trans h2.2⟩⟩)
    have HNW:=Lh HX.out.bel.size
    clear hrk hle hsm hhx hcall HLB
    refine wp_region_list ?_
    refine wpList_load_mid rfl 36 _ rfl u1 0 rfl (acl15 a Y) _ HX.out.r1.range (Tryz.underlying36) rfl info_ar15 ?_
    try simp only [Act.put,sIA,sIB,sIC]
    refine wpList_load_mid rfl 53 _ rfl u3 0 rfl (scl15 s X) _ HX.out.r3.range (Tryz.underlying53) rfl info_se ?_
    try simp only [Act.put,sIA,sIB,sIC]
    refine wpList_plain rfl (fun K hK=>?_)
    go_simp
    refine hK _ _ ?_
    clear hK K
    try simp only [Act.put,sIA,sIB,sIC]
    refine wpList_plain rfl (fun K hK=>?_)
    go_simp
    go_at_call 13
    refine (HST.out).mono ?_
    rintro e w5 ⟨Y2,X2,rfl,hyn,hxn,har,hse,hb⟩
    have R6:=Lh (Rb.start w5 zAl16 36)
    have R7:=Lh (Rb.start (w5.alloc zAo16) zSl16 53)
    rw [show (w5.alloc zAo16).heap.size=w5.heap.size+1 by simp] at R7
    have hal1:=(Below.refl w5.heap.size w5).alloc (nLR _) zAo16
    have hal2:=hal1.alloc (by simp) zSo16
    replace R6:=Lh (R6.out.up ((Below.refl _ _).alloc (nLR _) zSo16))
    have HQ:=Lh (show u1<w5.heap.size/\u3<w5.heap.size from ⟨Nat.lt_of_lt_of_le HX.out.r1.lt hb.size,Nat.lt_of_lt_of_le HX.out.r3.lt hb.size⟩)
    have HN:=Lh (show (AOff a2 Y2 u1/\AOff a2 Y2 u3)/\ROff (s2.rows X2) u1/\ROff (s2.rows X2) u3 from ⟨⟨hyn.off HX.out.r1.lt,hyn.off HX.out.r3.lt⟩,hxn.off HX.out.r1.lt,hxn.off HX.out.r3.lt⟩)
    have HO:=Lh (show (AOff a2 Y2 w5.heap.size/\AOff a2 Y2 (w5.heap.size+1))/\ROff (s2.rows X2) w5.heap.size/\ROff (s2.rows X2) (w5.heap.size+1) from ⟨⟨har.offs (nLR _),har.offs (by omega)⟩,hse.r.offs (nLR _),hse.r.offs (by omega)⟩)
    have HXO:=Lh (show (AOff a Y w5.heap.size/\AOff a Y (w5.heap.size+1))/\ROff (s.rows X) w5.heap.size/\ROff (s.rows X) (w5.heap.size+1) from ⟨⟨(HX.out.ar.up hb).offs (nLR _),(HX.out.ar.up hb).offs (by omega)⟩,(HX.out.se.up hb).r.offs (nLR _),(HX.out.se.up hb).r.offs (by omega)⟩)
    have HEN:=Lh (And.intro ((HE.out.up hb).new (u:=w5.heap.size) (nLR _)) ((HE.out.up hb).new (u:=w5.heap.size+1) (by omega)))
    have HGO:=Lh (show ∀ g,none=some g->AOff a2 Y2 g/\ROff (s2.rows X2) g from fun g e=>⟨hyn.off (HE.out.g g e).1.2.1,hxn.off (HE.out.g g e).1.2.1⟩)
    have HNW5:=Lh (show w.heap.size<=w5.heap.size from Nat.le_trans HNW.out hb.size)
    have HAR:=Lh ((har.below hal2).more hal2.size)
    have HSE:=Lh ((hse.below hal2).more hal2.size)
    replace HE:=Lh ((HE.out.up hb).up hal2)
    replace HX:=Lh ((HX.out.up hb).up hal2)
    clear hyn hxn har hse hb hal1 hal2
    refine hK _ _ ?_
    clear hK K
    try simp only [Act.put,sIA,sIB,sIC]
    iterate 6
     refine wpList_plain rfl (fun K hK=>?_)
     go_simp
     refine hK _ _ ?_
     clear hK K
     try simp only [Act.put,sIA,sIB,sIC]
    refine wpList_plain rfl (fun K hK=>?_)
    refine wp_store_st 36 _ _ rfl w5.heap.size zAl16 (acl15 a2 Y2) rfl rfl R6.out (acl15_len _ _) info_ar15 (acl15_one _ _) ?_
    refine hK _ _ ?_
    clear hK K
    obtain ⟨u6,hu6⟩:∃ x,x=w5.heap.size:=⟨_,rfl⟩
    rw [<-hu6] at R6 R7 HQ HO HXO HNW5 HEN ⊢
    have n67:¬u6=u6+1:=by omega
    have HP6:=Lh (show Rb (stN15 ((w5.alloc zAo16).alloc zSo16) u6 0 (acl15 a2 Y2)) u6 (acl15 a2 Y2)/\Rb (stN15 ((w5.alloc zAo16).alloc zSo16) u6 0 (acl15 a2 Y2)) (u6+1) zSl16/\AR (stN15 ((w5.alloc zAo16).alloc zSo16) u6 0 (acl15 a2 Y2)) (stN15 ((w5.alloc zAo16).alloc zSo16) u6 0 (acl15 a2 Y2)).heap.size a2 Y2/\SeR (stN15 ((w5.alloc zAo16).alloc zSo16) u6 0 (acl15 a2 Y2)) (stN15 ((w5.alloc zAo16).alloc zSo16) u6 0 (acl15 a2 Y2)).heap.size s2 X2 from ⟨R6.out.stN rfl,R7.out.stNo n67 0,by rw [stN15_size];exact HAR.out.stN15 HO.out.1.1 0,by rw [stN15_size];exact HSE.out.stN HO.out.2.1⟩)
    have HX6:=Lh (show Bx15 w u1 u3 a Y s X (stN15 ((w5.alloc zAo16).alloc zSo16) u6 0 (acl15 a2 Y2)) from HX.out.sto (Nat.ne_of_gt HQ.out.1) (Nat.ne_of_gt HQ.out.2) HXO.out.1.1 HXO.out.2.1 HNW5.out)
    have HE6:=Lh (HE.out.sto (o:=0) (vs:=(acl15 a2 Y2)) HEN.out.1.1 HEN.out.1.2 HNW5.out)
    clear R6 R7 HX HAR HSE HE
    generalize stN15 ((w5.alloc zAo16).alloc zSo16) u6 0 (acl15 a2 Y2)=w6 at*
    clear hu6
    try simp only [Act.put,sIA,sIB,sIC]
    refine wpList_plain rfl (fun K hK=>?_)
    refine wp_store_st 53 _ _ rfl (u6+1) zSl16 (scl15 s2 X2) rfl rfl HP6.out.2.1 (scl15_len _ _) info_se (scl15_one _ _) ?_
    refine hK _ _ ?_
    clear hK K
    have HP7:=Lh (show Rb (stN15 w6 (u6+1) 0 (scl15 s2 X2)) u6 (acl15 a2 Y2)/\Rb (stN15 w6 (u6+1) 0 (scl15 s2 X2)) (u6+1) (scl15 s2 X2)/\AR (stN15 w6 (u6+1) 0 (scl15 s2 X2)) (stN15 w6 (u6+1) 0 (scl15 s2 X2)).heap.size a2 Y2/\SeR (stN15 w6 (u6+1) 0 (scl15 s2 X2)) (stN15 w6 (u6+1) 0 (scl15 s2 X2)).heap.size s2 X2 from ⟨HP6.out.1.stNo (fun e=>n67 e.symm) 0,HP6.out.2.1.stN rfl,by rw [stN15_size];exact HP6.out.2.2.1.stN15 HO.out.1.2 0,by rw [stN15_size];exact HP6.out.2.2.2.stN HO.out.2.2⟩)
    have HX7:=Lh (show Bx15 w u1 u3 a Y s X (stN15 w6 (u6+1) 0 (scl15 s2 X2)) from HX6.out.sto (by have:=HQ.out;omega) (by have:=HQ.out;omega) HXO.out.1.2 HXO.out.2.2 (by have:=HNW5.out;omega))
    have HE7:=Lh (HE6.out.sto (o:=0) (vs:=(scl15 s2 X2)) HEN.out.2.1 HEN.out.2.2 (by have:=HNW5.out;omega))
    clear HP6 HX6 HE6
    generalize stN15 w6 (u6+1) 0 (scl15 s2 X2)=w7 at*
    try simp only [Act.put,sIA,sIB,sIC]
    refine wpList_plain rfl (fun K hK=>?_)
    go_simp
    refine hK _ _ ?_
    clear hK K
    try simp only [Act.put,sIA,sIB,sIC]
    go_upto_region 23 with (fail)
    have HN11:=Lh (show (Bx15 w u1 u3 a2 Y2 s2 X2 (stN15 (stN15 w7.drew u1 0 (acl15 a2 Y2)) u3 0 (scl15 s2 X2))/\Ex16 w none u1 u3 [⟨7,some ⟨bc,0,none⟩,CL.length,lcs CL⟩] (stN15 (stN15 w7.drew u1 0 (acl15 a2 Y2)) u3 0 (scl15 s2 X2)))/\(stN15 w7.drew u1 0 (acl15 a2 Y2)).rangeAt u6 0 (acl15 a2 Y2)/\(stN15 w7.drew u1 0 (acl15 a2 Y2)).rangeAt (u6+1) 0 (scl15 s2 X2)/\Rb (stN15 w7.drew u1 0 (acl15 a2 Y2)) u3 (scl15 s X)/\(stN15 (stN15 w7.drew u1 0 (acl15 a2 Y2)) u3 0 (scl15 s2 X2)).rangeAt u6 0 (acl15 a2 Y2)/\(stN15 (stN15 w7.drew u1 0 (acl15 a2 Y2)) u3 0 (scl15 s2 X2)).rangeAt (u6+1) 0 (scl15 s2 X2) from by
     have hd:=(Below.refl w7.heap.size w7).drew
     have b0:=HX7.out.up hd
     have b1:=b0.putA (HP7.out.2.2.1.up hd) HN.out.1
     have r6:=(HP7.out.1.up hd).stNo (p:=u1) (vs:=(acl15 a2 Y2)) (by have:=HQ.out;omega) 0
     have r7:=(HP7.out.2.1.up hd).stNo (p:=u1) (vs:=(acl15 a2 Y2)) (by have:=HQ.out;omega) 0
     have se1:SeR (stN15 w7.drew u1 0 (acl15 a2 Y2)) (stN15 w7.drew u1 0 (acl15 a2 Y2)).heap.size s2 X2:=by rw [stN15_size];exact (HP7.out.2.2.2.up hd).stN HN.out.2.1
     exact ⟨⟨b1.putS se1 HN.out.2,((HE7.out.up hd).sto1 (o:=0) (vs:=(acl15 a2 Y2)) HX7.out.ne.1).sto3 (o:=0) (vs:=(scl15 s2 X2)) HX7.out.ne.2.1⟩,r6.range,r7.range,b1.r3,(r6.stNo (p:=u3) (vs:=(scl15 s2 X2)) (by have:=HQ.out;omega) 0).range,(r7.stNo (p:=u3) (vs:=(scl15 s2 X2)) (by have:=HQ.out;omega) 0).range⟩)
    have HS0:=Lh (show w7.drew.rangeAt u6 0 (acl15 a2 Y2)/\w7.drew.rangeAt (u6+1) 0 (scl15 s2 X2) from ⟨(HP7.out.1.up (Below.refl w7.heap.size w7).drew).range,(HP7.out.2.1.up (Below.refl w7.heap.size w7).drew).range⟩)
    have HR1:=Lh (HX7.out.r1.up (Below.refl w7.heap.size w7).drew)
    go_cut [] (fun wx=>Hid (Bx15 w u1 u3 a2 Y2 s2 X2 wx/\Ex16 w none u1 u3 [⟨7,some ⟨bc,0,none⟩,CL.length,lcs CL⟩] wx))
    case first=>
     refine wp_region_noPanic ?_
     refine wp_region_held_drew (S:=fun W=>W.rangeAt u6 0 (acl15 a2 Y2)/\W.rangeAt (u6+1) 0 (scl15 s2 X2)) (by kernel_rfl) ?hS0 (fun hHeld=>?_)
     case hS0=>exact HS0.out
     generalize w7.drew=w8 at*
     refine wpAnyH_take (i:=0) (oi:=?o0x4) (v:=.agg (acl15 a2 Y2).toArray) ?hi0x4 (by kernel_rfl) (by kernel_rfl) (by kernel_rfl) (fun _ _ _ h=>h) ?hy0x4 hHeld ?_
     case hi0x4=>simp only [List.getElem?_toArray,List.getElem?_cons_zero];exact rfl
     case hy0x4=>exact yieldsIf_load_mid rfl 36 _ rfl u6 0 rfl (acl15 a2 Y2) _ (fun w hSw=>hSw.1) (Tryz.underlying36) rfl info_ar15
     try simp only [Act.put,sIA,sIB,sIC]
     refine wpAnyH_take (i:=1) (oi:=?o1x5) (v:=.agg (scl15 s2 X2).toArray) ?hi1x5 (by kernel_rfl) (by kernel_rfl) (by kernel_rfl) (fun _ _ _ h=>h) ?hy1x5 hHeld ?_
     case hi1x5=>simp only [List.getElem?_toArray,List.getElem?_cons_succ,List.getElem?_cons_zero];exact rfl
     case hy1x5=>exact yieldsIf_load_mid rfl 53 _ rfl (u6+1) 0 rfl (scl15 s2 X2) _ (fun w hSw=>hSw.2) (Tryz.underlying53) rfl info_se
     try simp only [Act.put,sIA,sIB,sIC]
     refine wpAnyH_ready (rs:=[2]) (by kernel_rfl) (by simp) ?_
     refine AllReadyH.cons (o:=?o2x6) ?ho2x6 ?st2x6 AllReadyH.nil
     case ho2x6=>simp only [List.getElem?_toArray,List.getElem?_cons_succ,List.getElem?_cons_zero];exact rfl
     case st2x6=>
      intro K hK
      refine wp_store_st 36 _ _ rfl u1 (acl15 a Y) (acl15 a2 Y2) rfl rfl HR1.out rfl info_ar15 (acl15_one _ _) ?_
      refine hK.out _ _ ?hS2x6 (fun hHeld=>?_)
      case hS2x6=>exact ⟨HN11.out.2.1,HN11.out.2.2.1⟩
      clear hK K
      try simp only [Act.put,sIA,sIB,sIC]
      clear hHeld
      have hHeld:=And.intro HN11.out.2.1 HN11.out.2.2.1
      clear HR1 HS0 HX7 HP7 HE7
      generalize stN15 w8 u1 0 (acl15 a2 Y2)=w9 at*
      refine wpAnyH_ready (rs:=[3]) (by kernel_rfl) (by simp) ?_
      refine AllReadyH.cons (o:=?o3x7) ?ho3x7 ?st3x7 AllReadyH.nil
      case ho3x7=>simp only [List.getElem?_toArray,List.getElem?_cons_succ,List.getElem?_cons_zero];exact rfl
      case st3x7=>
       intro K hK
       refine wp_store_st 53 _ _ rfl u3 (scl15 s X) (scl15 s2 X2) rfl rfl HN11.out.2.2.2.1 rfl info_se (scl15_one _ _) ?_
       refine hK.out _ _ ?hS3x7 (fun hHeld=>?_)
       case hS3x7=>exact ⟨HN11.out.2.2.2.2.1,HN11.out.2.2.2.2.2⟩
       clear hK K
       try simp only [Act.put,sIA,sIB,sIC]
       clear hHeld
       have HNX:=Lh HN11.out.1
       clear HN11
       generalize stN15 w9 u3 0 (scl15 s2 X2)=w10 at*
       refine wpAnyH_done (by kernel_rfl) ?_ _
       refine NoPanic.normal ?_
       go_wp2_with fail
       go_meet
       exact HNX
    case rest=>
     have HX:=Lh hcut.out.1
     have HE:=Lh hcut.out.2
     clear hcut HN HO HXO HQ HNW HNW5 HN11 HS0 HR1 HX7 HP7 HEN HE7 HST
     generalize wc=w9 at*
     have HFX:=Lh (rk_fx HCK.out HL2.out.rk)
     have HPH:=Lh (show s2.ph=p2.ph/\s2.at_=(p2.at_:Int)/\s2.ca=p2.ca from ⟨HL2.out.hx.2.ph,HL2.out.hx.2.at_,HL2.out.hx.2.ca⟩)
     have c0:w9.cell? ⟨u3,0,none⟩=some (.int .i64 s2.ph):=HX.out.r3.c 0 _ rfl
     have c1:w9.cell? ⟨u3,1,none⟩=some (.int .i64 s2.at_):=HX.out.r3.c 1 _ rfl
     have c25:w9.cell? ⟨u3,25,none⟩=some (.slice X2.Ac s2.ca.length X2.cc):=HX.out.r3.c 25 _ rfl
     have yl:=HX.out.r3.lt
     have hwn:IntKind.i64.wrap ((k:Int)+1+1)=(k:Int)+1+1:=IntWalk.i64_in _ (by have:=HL2.out.n;omega)
     by_cases h51:p2.ph=5/\p2.at_=1
     ·have hb5:(s2.ph==5)=true:=by rw [HPH.out.1,h51.1];rfl
      have hb1:(s2.at_==1)=true:=by rw [HPH.out.2.1,h51.2];rfl
      have hca:=HFX.out.c1 h51.1 h51.2
      have hd:=HL2.out.d hca.2.1
      have hcc:s2.ca=CL:=by rw [HPH.out.2.2,hca.1,hd.2]
      have hbf:b=false:=by
       cases b with
       | false=>rfl
       | true=>
        have h1:=HOD.out.1 rfl
        have h2:=hca.2.2
        rw [hd.1,h1] at h2
        exact absurd h2 (by decide)
      rw [hcc,HCL.out] at c25
      have HLS:=Lh (show Ls w9 w9.heap.size (.slice X2.Ac 2 X2.cc) CL from by have:=HX.out.se.carry;rw [hcc,HCL.out] at this;exact this)
      have HLR:=Lh (show Ls w9 w9.heap.size (.slice (some ⟨bc,0,none⟩) 2 2) CL from ⟨_,2,by rw [HCL.out],by rw [HCL.out];exact nLR 2,by unfold maxLen;decide,HE.out.r _ (List.mem_singleton.2 rfl)⟩)
      have HSM:=Lh (rsame_yes X2.Ac (some ⟨bc,0,none⟩) 2 2 X2.cc 2 CL w9 _ _ HLS.out HLR.out)
      subst hbf
      clear h51 hca hd hcc HLS HLR
      go_wp2_with fail
      refine HSM.out.mono ?_
      rintro e w10 ⟨rfl,hb⟩
      have HX:=Lh (HX.out.up hb)
      have HE:=Lh (HE.out.up hb)
      clear hb c0 c1 c25 yl hb5 hb1 HSM
      go_wp2
      go_roundw
      case rel=>exact ⟨k+1,p2,r3,a2,Y2,s2,X2,by first | rfl | (simp;done) | go_num,HL2,HX,HE⟩
      case measure=>have:=HL2.out.n;simp [intOf];omega
     ·have hca:s2.ca=[]:=HPH.out.2.2.trans (HFX.out.c0 h51)
      rw [hca] at c25
      simp only [List.length_nil] at c25
      by_cases h5:p2.ph=5
      ·have hb5:(s2.ph==5)=true:=by rw [HPH.out.1,h5];rfl
       have hb1:(s2.at_==1)=false:=by
        rw [HPH.out.2.1]
        have:p2.at_≠1:=fun h=>h51 ⟨h5,h⟩
        simp
        omega
       clear h51 h5 hca
       go_wp2
       clear c0 c1 c25 yl hb5 hb1
       go_roundw
       case rel=>exact ⟨k+1,p2,r3,a2,Y2,s2,X2,by first | rfl | (simp;done) | go_num,HL2,HX,HE⟩
       case measure=>have:=HL2.out.n;simp [intOf];omega
      ·have hb5:(s2.ph==5)=false:=by rw [HPH.out.1];simpa using h5
       clear h51 h5 hca
       go_wp2
       clear c0 c1 c25 yl hb5
       go_roundw
       case rel=>exact ⟨k+1,p2,r3,a2,Y2,s2,X2,by first | rfl | (simp;done) | go_num,HL2,HX,HE⟩
       case measure=>have:=HL2.out.n;simp [intOf];omega
/-! The row's step, as the guide's shell has it. -/
namespace sectionCarries
open Go.ChangeShapes Go.WideShapes Go.ChangeAt
open Go.ChangeMaps (open_string shut_string)
theorem own:ownKnob Tryz.prog.godebug=none:=by kernel_rfl
theorem laidOut:laidOutB Tryz.prog=true:=by kernel_rfl
set_option maxRecDepth 100000 in
theorem lifted (os:Os) (started:os.Started) (H:Type) (enc:TypeId×Value->H) :
  ReturnsInHanded {} Tryz.checked os 4 .any (Rows.sectionCarriesSpec.pre6 enc Tryz.prog Tryz.f4 Rows.sectionCarriesRow.domain false) (Rows.sectionCarriesSpec.post enc Tryz.prog Tryz.f4 false true false false):=by
 refine returnsInHanded_of_change (C:=Tryz.checked) own started (by kernel_rfl) Tryz.func4
  (ChangeSpec.witness6 (enc:=enc) (C:=Tryz.checked) false ⟨#[],#[.slice none 0 0],[]⟩ 8 (by kernel_rfl) (by kernel_rfl) (by kernel_rfl) (by kernel_rfl)) ?_
 intro W base args ds gs before hval0 hW hcnd _
 have hval:∀ (j:Nat) t v,Tryz.f4.params[j]? = some t->args[j]? = some v->Value.okWide Tryz.prog W .any base t v:=hval0
 have hW':=hW
 obtain ⟨p,q,hA0,hV,rfl,hfz,hnd⟩:=hW
 have hA:DataW.TrodAll enc Tryz.prog W 0 (fun _=>true) true Tryz.f4.params.toList args.toList ds p:=hA0
 rw [Tryz.params4] at hA hval
 obtain ⟨v0,vs0,d0,ds0,p0,q0,hargs,rfl,rfl,h0,r0⟩:=trodAll_cons hA
 obtain ⟨rfl,rfl,rfl⟩:=trodAll_nil r0
 obtain rfl:args = #[v0]:=by cases args;simp_all
 obtain ⟨rfl,rfl⟩:=trodVars_none hV
 obtain ⟨a0,len0,cap0,rfl⟩:=okWide_slice Tryz.underlying22 (hval 0 22 v0 rfl rfl)
 have k0:=h0
 have lt0:∀ x∈p0,x.block<W.heap.size:=by obtain ⟨m,hm⟩:=k0;exact DataW.trod_lt m _ _ _ hm
 obtain ⟨z0,w0⟩:∃ zs,Ns W W.heap.size (.slice a0 len0 cap0) zs:=by
  obtain ⟨fuel,hf⟩:=h0
  rcases open_ints Tryz.underlying22 Tryz.underlying3 (by kernel_rfl) hf with ⟨hcs,_⟩ | ⟨x,l,c,zs,hcs,_,hl,hm,hz,_,hcell,hwz⟩
  ·simp [Value.cells] at hcs
   obtain ⟨rfl,rfl,rfl⟩:=hcs
   exact ⟨[],Ns.nil⟩
  ·simp [Value.cells] at hcs
   obtain ⟨rfl,rfl,rfl⟩:=hcs
   exact Ns.of_cells hl hm (by simpa using hz) hcell hwz
 clear hA0 hval0
 refine (SectionCarries_walk W a0 len0 cap0 z0 w0).mono fun e W' ⟨he,bel⟩=>?_
 subst he
 exact ⟨_,rfl,_,_,_,[],_,[],hW',trodAll_mk1 (shut_bool Tryz.underlying4 _),(trodAll_cons_mk (Below.trod laidOut (by kernel_rfl) (of_decide_eq_true (by kernel_rfl)) k0 bel lt0) trodAll_mk0),rfl,bel.frame _,fun h=>by cases h⟩
theorem over:Rows.sectionCarriesRow.holds Tryz.pinned (OpenSpec.ofChange Rows.sectionCarriesSpec):=
 OpenClaim.holds_of_wide 4 Tryz.f4 rfl rfl rfl rfl rfl rfl rfl ⟨rfl,rfl,rfl,rfl,rfl⟩ rfl rfl rfl rfl rfl (by kernel_rfl) Tryz.func4 (by kernel_rfl)
  (of_decide_eq_true (by kernel_rfl)) (by unfold Func.isWrapper;first | (rw [if_pos (by decide +kernel)];kernel_rfl) | (rw [if_neg (by decide +kernel)];exact ⟨rfl,rfl⟩))
  (fun os started H enc _=>lifted os started H enc)
theorem proved:Rows.SectionCarriesSaid:=over
#print axioms proved
end sectionCarries
end Go.Proofs.YtkecnihgjepfeaaGreat
