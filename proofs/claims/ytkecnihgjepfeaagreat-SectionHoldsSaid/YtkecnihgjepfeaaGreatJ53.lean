/- What is proved here: parts of the proof: Hsa. -/
import Derived.Test.YtkecnihgjepfeaaGreatJ52
import Derived.OpenShut
import Derived.ChangeOld
namespace Go.Proofs.YtkecnihgjepfeaaGreat
open Go.RowKit
set_option linter.unusedVariables false
set_option linter.unusedSimpArgs false
set_option maxHeartbeats 8000000
set_option maxRecDepth 20000
structure Lh16 (C:Cx15) (k:Nat) (p:Px15) (r:Nat) (a:Ar) (s:Se):Prop where
 rk:Rk15 C p r
 hx:Hx15 C p a s
 n:k+r<=40
theorem ics_at16 {F:List Int} {x:Nat} (h:x<F.length):(ics F)[x]? = some (.int .i64 (ig F x)):=by rw [ig_get h];simp [ics,h,i64v]
theorem c8_up16 {W W' : World} {b o:Nat} {S:Sh} {D:Sx} (hb:Below W.heap.size W W') (hl:b<W.heap.size) (h:C8h W b o S D):C8h W' b o S D:=
 ⟨(hb.cell (p:=⟨b,o,none⟩) hl).trans h.1,(hb.cell (p:=⟨b,o+1,none⟩) hl).trans h.2.1,(hb.cell (p:=⟨b,o+2,none⟩) hl).trans h.2.2.1,(hb.cell (p:=⟨b,o+3,none⟩) hl).trans h.2.2.2.1,(hb.cell (p:=⟨b,o+4,none⟩) hl).trans h.2.2.2.2.1,(hb.cell (p:=⟨b,o+5,none⟩) hl).trans h.2.2.2.2.2.1,(hb.cell (p:=⟨b,o+6,none⟩) hl).trans h.2.2.2.2.2.2.1,(hb.cell (p:=⟨b,o+7,none⟩) hl).trans h.2.2.2.2.2.2.2⟩
theorem od_none (C:Cx15):Od15 C [] []:=⟨Nat.zero_le _,Nat.zero_le _,fun i hi=>absurd hi (by simp)⟩
theorem od_one {C:Cx15} {y:Int} (h0:0<=y) (h1:y<C.cs.length):Od15 C [y] []:=⟨by show 1<=_;omega,Nat.zero_le _,fun i hi=>by
 obtain rfl:i=0:=by have:i<1:=hi;omega
 exact ⟨⟨h0,h1⟩,by simp⟩⟩
def hsP16:{ P:Prop×Prop // P.1->P.2->∀ (w:World) (a1:Option Addr) (l1 c1:Nat) (zs:List Int) (hz:Ns w w.heap.size (.slice a1 l1 c1) zs),Calls Tryz.prog 3 #[.slice a1 l1 c1] w fun e w'=>e=.returned (.bool true)/\Below w.heap.size w w' }:=⟨(_,_),fun hP1 hP2 w a1 l1 c1 zs hz=>by
 have HP1:=Lh hP1
 have HP2:=Lh hP2
 clear hP1 hP2
 have HNS:=Lh (new_src a1 l1 c1 zs w hz)
 have HAW:=Lh (fun W=>awake15_any W)
 clear hz
 go_enter Tryz.func3,Tryz.ntmps3
 go_wp2_with fail
 refine HNS.out.mono ?_
 rintro e w1 ⟨g,rfl,hs,hb⟩
 have HS0:=Lh (show SrcAt w1 w.heap.size g/\Below w.heap.size w w1/\w.heap.size<=g from ⟨hs,hb,hs.1⟩)
 clear hs hb HNS
 go_upto_region 2 with (fail)
 refine wp_region_list ?_
 refine wpList_plain rfl (fun K hK=>?_)
 go_simp
 refine hK _ _ ?_
 clear hK K
 try simp only [Act.put,sIA,sIB,sIC]
 refine wpList_plain rfl (fun K hK=>?_)
 go_simp
 go_at_call 7
 refine (setup_any w.heap.size g _ HS0.out.1).mono ?_
 rintro e ws ⟨su,rfl,hok,hs,hg⟩
 have HS1:=Lh (show SrcAt ws w.heap.size g/\Below w.heap.size w ws/\w.heap.size<=g from ⟨hs,HS0.out.2.1.grown hg HS0.out.2.1.size (fun k e=>by injection e with e;have:=HS0.out.2.2;omega),HS0.out.2.2⟩)
 obtain ⟨hE,N,hN,hN6,hsl,hcx⟩:=cx_nw hok
 have HNW:=Lh (fun W=>anew_any su W)
 rw [hE] at HNW
 obtain ⟨A0,hA0⟩:∃ A,A=nwA su:=⟨_,rfl⟩
 rw [<-hA0] at HNW hsl hcx
 have HCX:=Lh hcx
 have HSL:=Lh hsl
 have HN6:=Lh hN6
 clear hok hs hg hE hN hN6 hsl hcx hA0 HS0
 refine hK _ _ ?_
 clear hK K
 try simp only [Act.put,sIA,sIB,sIC]
 refine wpList_plain rfl (fun K hK=>?_)
 go_simp
 go_at_call 6
 refine (HNW.out _).mono ?_
 rintro e w2 ⟨Y,rfl,hn,hr,hb⟩
 have HR:=Lh (Rb.start w2 zAl16 36)
 have hal:=(Below.refl w2.heap.size w2).alloc (nLR _) zAo16
 have HA1:=Lh (show AR (w2.alloc zAo16) (w2.alloc zAo16).heap.size A0 Y/\AOff A0 Y w2.heap.size/\Below w.heap.size w (w2.alloc zAo16)/\w.heap.size<=w2.heap.size from ⟨hr.up hal,hr.offs (nLR _),HS1.out.2.1.trans ((hb.trans (hal.mono hb.size)).mono HS1.out.2.1.size),Nat.le_trans HS1.out.2.1.size hb.size⟩)
 have HG1:=Lh (show SrcAt (w2.alloc zAo16) w.heap.size g/\w2.heap.size≠g/\AOff A0 Y g from ⟨(HS1.out.1.below hb).below hal,by have h1:=HS1.out.1.2.1;have h2:=hb.size;omega,hn.off HS1.out.1.2.1⟩)
 clear hn hr hb hal HS1 HNW
 refine hK _ _ ?_
 clear hK K
 try simp only [Act.put,sIA,sIB,sIC]
 iterate 4
  refine wpList_plain rfl (fun K hK=>?_)
  go_simp
  refine hK _ _ ?_
  clear hK K
  try simp only [Act.put,sIA,sIB,sIC]
 refine wpList_plain rfl (fun K hK=>?_)
 refine wp_store_st 36 _ _ rfl w2.heap.size zAl16 (acl15 A0 Y) rfl rfl HR.out (acl15_len _ _) info_ar15 (acl15_one _ _) ?_
 refine hK _ _ ?_
 clear hK K
 obtain ⟨u1,hu1⟩:∃ x,x=w2.heap.size:=⟨_,rfl⟩
 rw [<-hu1] at HR HA1 HG1 ⊢
 have HW2:=Lh (show Rb (stN15 (w2.alloc zAo16) u1 0 (acl15 A0 Y)) u1 (acl15 A0 Y)/\AR (stN15 (w2.alloc zAo16) u1 0 (acl15 A0 Y)) (stN15 (w2.alloc zAo16) u1 0 (acl15 A0 Y)).heap.size A0 Y/\AOff A0 Y u1/\Below w.heap.size w (stN15 (w2.alloc zAo16) u1 0 (acl15 A0 Y))/\w.heap.size<=u1 from ⟨HR.out.stN rfl,by rw [stN15_size];exact HA1.out.1.stN15 HA1.out.2.1 0,HA1.out.2.1,stN15_below HA1.out.2.2.1 HA1.out.2.2.2 0,HA1.out.2.2.2⟩)
 have HG2:=Lh (show SrcAt (stN15 (w2.alloc zAo16) u1 0 (acl15 A0 Y)) w.heap.size g/\u1≠g/\AOff A0 Y g from ⟨HG1.out.1.stN HG1.out.2.1 HA1.out.2.2.2 0,HG1.out.2⟩)
 clear HR HA1 HG1
 generalize stN15 (w2.alloc zAo16) u1 0 (acl15 A0 Y)=w3 at*
 clear hu1
 try simp only [Act.put,sIA,sIB,sIC]
 refine wpList_plain rfl (fun K hK=>?_)
 go_simp
 refine hK _ _ ?_
 clear hK K
 try simp only [Act.put,sIA,sIB,sIC]
 have c0:w3.cell? ⟨u1,0,none⟩=some (.slice Y.A N Y.c):=by have h:=HW2.out.1.c 0 _ rfl;rw [HSL.out] at h;exact h
 have yl:=HW2.out.1.lt
 have hN0:((N:Int)==0)=false:=by have:=HN6.out.1;simp;omega
 go_upto_region 5 with (fail)
 clear hN0
 go_wp2_with fail
 refine (cells15_any N w.heap.size g _ HG2.out.1 (by have:=HN6.out;omega) (by have:=HN6.out;omega)).mono ?_
 rintro e w4 ⟨Ac,cc,cs,rfl,hcs,hcl,hnw,hfl,hs,hg⟩
 obtain ⟨bc,oc,rfl,hbc,-⟩:=hfl.rd.2 (by omega)
 have HCS:=Lh (And.intro hcs hcl)
 have HFL:=Lh hfl
 have HRO:=Lh (show ROff [⟨1,some ⟨bc,oc,none⟩,cs.length,ics cs⟩] u1/\ROff [⟨1,some ⟨bc,oc,none⟩,cs.length,ics cs⟩] g/\RR w4 w4.heap.size [⟨1,some ⟨bc,oc,none⟩,cs.length,ics cs⟩] from by
  have h1:w3.heap.size<=bc:=hnw _ rfl
  refine ⟨fun r hr=>?_,fun r hr=>?_,fun r hr=>?_⟩
  ·obtain rfl:r=⟨1,some ⟨bc,oc,none⟩,cs.length,ics cs⟩:=by simpa using hr
   intro _ a ha;injection ha with ha;subst ha;show bc≠u1;have:=HW2.out.1.lt;omega
  ·obtain rfl:r=⟨1,some ⟨bc,oc,none⟩,cs.length,ics cs⟩:=by simpa using hr
   intro _ a ha;injection ha with ha;subst ha;show bc≠g;have:=HG2.out.1.2.1;omega
  ·obtain rfl:r=⟨1,some ⟨bc,oc,none⟩,cs.length,ics cs⟩:=by simpa using hr
   exact hfl.rd)
 have HW4:=Lh (show Rb w4 u1 (acl15 A0 Y)/\AR w4 w4.heap.size A0 Y/\AOff A0 Y u1/\Below w.heap.size w w4/\w.heap.size<=u1 from ⟨HW2.out.1.grown hg HG2.out.2.1,HW2.out.2.1.grown15 hg HG2.out.2.2,HW2.out.2.2.1,HW2.out.2.2.2.1.grown hg HW2.out.2.2.2.1.size (fun k e=>by injection e with e;have:=HG2.out.1.1;omega),HW2.out.2.2.2.2⟩)
 have HG4:=Lh (show SrcAt w4 w.heap.size g/\u1≠g/\AOff A0 Y g from ⟨hs,HG2.out.2⟩)
 obtain ⟨hC,hE15,hx0⟩:=HCX.out cs 9 2 hcs hcl ⟨by decide,by decide⟩ ⟨by decide,by decide⟩
 have HSN:=Lh (unew15_any (some ⟨bc,oc,none⟩) cc cs 2 w4 hfl)
 rw [hE15] at HSN
 obtain ⟨C,hCe⟩:∃ C:Cx15,C=⟨N,cs,9,2,A0⟩:=⟨_,rfl⟩
 rw [<-hCe] at hC hx0
 have HCT:=Lh (show C.t=9/\C.cs=cs/\C.N=N by rw [hCe];exact ⟨rfl,rfl,rfl⟩)
 obtain ⟨S0,hS0⟩:∃ S,S=nwS15 cs 2:=⟨_,rfl⟩
 rw [<-hS0] at HSN hx0
 have HX0:=Lh hx0
 have HCK:=Lh hC
 clear hC hx0 hE15 hCe hS0 hcs hcl hnw hfl hs hg hbc HW2 HG2 HCX c0 yl
 go_upto_region 6 with (fail)
 refine wp_region_list ?_
 refine wpList_plain rfl (fun K hK=>?_)
 go_simp
 refine hK _ _ ?_
 clear hK K
 try simp only [Act.put,sIA,sIB,sIC]
 refine wpList_plain rfl (fun K hK=>?_)
 go_simp
 go_at_call 9
 refine (HSN.out).mono ?_
 rintro e w5 ⟨X,rfl,hn,hr,hb⟩
 have HR:=Lh (Rb.start w5 zSl16 53)
 have hal:=(Below.refl w5.heap.size w5).alloc (nLR _) zSo16
 have HW3:=Lh (show (Rb (w5.alloc zSo16) u1 (acl15 A0 Y)/\AR (w5.alloc zSo16) (w5.alloc zSo16).heap.size A0 Y/\AOff A0 Y u1/\AOff A0 Y w5.heap.size)/\(SeR (w5.alloc zSo16) (w5.alloc zSo16).heap.size S0 X/\ROff (S0.rows X) u1/\ROff (S0.rows X) w5.heap.size)/\Below w.heap.size w (w5.alloc zSo16)/\w.heap.size<=u1/\w.heap.size<=w5.heap.size/\u1<w5.heap.size from
  ⟨⟨(HW4.out.1.up hb).up hal,(HW4.out.2.1.up hb).up hal,HW4.out.2.2.1,HW4.out.2.1.offs hb.size⟩,⟨hr.up hal,hn.off HW4.out.1.lt,hr.r.offs (nLR _)⟩,HW4.out.2.2.2.1.trans ((hb.trans (hal.mono hb.size)).mono HW4.out.2.2.2.1.size),HW4.out.2.2.2.2,Nat.le_trans HW4.out.2.2.2.1.size hb.size,Nat.lt_of_lt_of_le HW4.out.1.lt hb.size⟩)
 have HG3:=Lh (show (SrcAt (w5.alloc zSo16) w.heap.size g/\u1≠g/\AOff A0 Y g)/\(w5.heap.size≠g/\ROff (S0.rows X) g)/\RR (w5.alloc zSo16) (w5.alloc zSo16).heap.size [⟨1,some ⟨bc,oc,none⟩,cs.length,ics cs⟩]/\ROff [⟨1,some ⟨bc,oc,none⟩,cs.length,ics cs⟩] w5.heap.size from ⟨⟨(HG4.out.1.below hb).below hal,HG4.out.2⟩,⟨by have h1:=HG4.out.1.2.1;have h2:=hb.size;omega,hn.off HG4.out.1.2.1⟩,(HRO.out.2.2.up hb).up hal,HRO.out.2.2.offs hb.size⟩)
 clear hn hr hb hal HW4 HG4
 refine hK _ _ ?_
 clear hK K
 try simp only [Act.put,sIA,sIB,sIC]
 iterate 4
  refine wpList_plain rfl (fun K hK=>?_)
  go_simp
  refine hK _ _ ?_
  clear hK K
  try simp only [Act.put,sIA,sIB,sIC]
 refine wpList_plain rfl (fun K hK=>?_)
 refine wp_store_st 53 _ _ rfl w5.heap.size zSl16 (scl15 S0 X) rfl rfl HR.out (scl15_len _ _) info_se (scl15_one _ _) ?_
 refine hK _ _ ?_
 clear hK K
 obtain ⟨u3,hu3⟩:∃ x,x=w5.heap.size:=⟨_,rfl⟩
 rw [<-hu3] at HR HW3 HG3 ⊢
 have HX:=Lh (show Bx15 w u1 u3 A0 Y S0 X (stN15 (w5.alloc zSo16) u3 0 (scl15 S0 X)) from ⟨HW3.out.1.1.stNo (Nat.ne_of_gt HW3.out.2.2.2.2.2) 0,HR.out.stN rfl,by rw [stN15_size];exact HW3.out.1.2.1.stN15 HW3.out.1.2.2.2 0,by rw [stN15_size];exact HW3.out.2.1.1.stN HW3.out.2.1.2.2,HW3.out.1.2.2,HW3.out.2.1.2,⟨HW3.out.2.2.2.1,HW3.out.2.2.2.2.1,Nat.ne_of_lt HW3.out.2.2.2.2.2⟩,stN15_below HW3.out.2.2.1 HW3.out.2.2.2.2.1 0⟩)
 have HE:=Lh (show Ex16 w (some g) u1 u3 [⟨1,some ⟨bc,oc,none⟩,cs.length,ics cs⟩] (stN15 (w5.alloc zSo16) u3 0 (scl15 S0 X)) from ⟨by rw [stN15_size];exact HG3.out.2.2.1.stN HG3.out.2.2.2 0,⟨HRO.out.1,HG3.out.2.2.2⟩,fun x e=>by injection e with e;subst e;exact ⟨HG3.out.1.1.stN HG3.out.2.1.1 HW3.out.2.2.2.2.1 0,⟨HG3.out.1.2.1,HG3.out.2.1.1⟩,HRO.out.2.1⟩⟩)
 have HGO:=Lh (show AOff A0 Y g/\ROff (S0.rows X) g from ⟨HG3.out.1.2.2,HG3.out.2.1.2⟩)
 clear HR HW3 HG3 HRO HSN HFL
 generalize stN15 (w5.alloc zSo16) u3 0 (scl15 S0 X)=w6 at*
 clear hu3
 try simp only [Act.put,sIA,sIB,sIC]
 refine wpList_plain rfl (fun K hK=>?_)
 go_simp
 refine hK _ _ ?_
 clear hK K
 try simp only [Act.put,sIA,sIB,sIC]
 go_upto_region 10 with (fail)
 go_loopw [8] (fun iv wr=>∃ (k:Nat) (p:Px15) (r:Nat) (a:Ar) (Y:Ax) (s:Se) (X:Sex),iv=.int .i64 ((k:Int)+1)/\Hid (Lh16 C k p r a s)/\Hid (Bx15 w u1 u3 a Y s X wr)/\Hid (Ex16 w (some g) u1 u3 [⟨1,some ⟨bc,oc,none⟩,cs.length,ics cs⟩] wr)/\Hid (AOff a Y g/\ROff (s.rows X) g)) (fun iv _=>43 - (intOf iv).toNat)
 case atStart=>
  have hh:0<C.cs.length:=by have:=HCS.out.2;rw [HCT.out.2.1];omega
  refine ⟨0,pL15 0,_,A0,Y,S0,X,rfl,Lh ⟨Rk15.lk (C:=C) (h:=0) hh,HX0.out,?_⟩,HX,HE,HGO⟩
  have:=rk_le HCK.out (Rk15.lk (C:=C) (h:=0) hh)
  omega
 case round=>
  clear HX HE HX0 HGO
  obtain ⟨k,p,r,a,Y,s,X,rfl,HL,HX,HE,HGA⟩:=hrel
  have HFX:=Lh (rk_fx HCK.out HL.out.rk)
  have HPH:=Lh (show s.ph=p.ph from HL.out.hx.2.ph)
  by_cases h9:p.ph=9
  ·have c0:wr.cell? ⟨u3,0,none⟩=some (.int .i64 9):=by rw [<-h9,<-HPH.out];exact HX.out.r3.c 0 _ rfl
   have yl:=HX.out.r3.lt
   have d1:wr.cell? ⟨u1,1,none⟩=some (.slice Y.A2 a.st.length Y.c2):=HX.out.r1.c 1 _ rfl
   have dl:=HX.out.r1.lt
   have HF:=Lh HX.out.bel
   have HQ:=Lh (rquiet_any Y.A2 a.st.length Y.c2 a.st wr HX.out.ar.tl)
   have hq:quB a.st=true:=quB_yes (fun j hj=>by
    have hai:=HL.out.hx.1
    have hm:=HFX.out.m8 (by omega)
    have hj2:j<C.N:=by have:=hai.st;omega
    have hsq:=hai.sq
    rw [hm.1,hm.2] at hsq
    exact Sq15.even hj2 hsq)
   rw [hq] at HQ
   clear h9 HL HX HE HFX HPH hq HGA
   by_cases hle:(k:Int)+1<=40
   all_goals
    go_wp2_with fail
    refine HQ.out.mono ?_
    rintro e w9 ⟨rfl,rfl⟩
    go_wp2_with fail
    refine (HAW.out _).mono ?_
    rintro e w10 ⟨rfl,hb⟩
    have HFI:=Lh (HF.out.trans (hb.mono HF.out.size))
    clear hb c0 yl d1 dl
    go_wp2
    go_ret
    exact ⟨rfl,HFI.out⟩
  ·have HLE:=Lh (show k+r<=40/\1<=r from ⟨HL.out.n,HFX.out.r0 h9⟩)
   have hle:(k:Int)+1<=40:=by have:=HLE.out;omega
   have hne9:(s.ph != 9)=true:=by rw [HPH.out];simpa using h9
   have HN9:=Lh h9
   have c0:wr.cell? ⟨u3,0,none⟩=some (.int .i64 s.ph):=HX.out.r3.c 0 _ rfl
   have yl:=HX.out.r3.lt
   have hwn:IntKind.i64.wrap ((k:Int)+1+1)=(k:Int)+1+1:=IntWalk.i64_in _ (by omega)
   have HWN:=Lh hwn
   clear h9 hwn
   by_cases h4:s.ph=4
   ·have hb4:(s.ph==4)=true:=by simp [h4]
    rename_i ya1 ya2 ya3 ya4 ya5
    clear HAW HN6 HSL
    revert w a1 l1 c1 zs ya1 w1 g ws su N A0 w2 ya2 u1 w3 w4 cc cs bc oc HCS C HCT S0 HCK w5 ya3 u3 w6 ya4 ya5 wr u2 u9 u10 u11 u12 u13 u14 u15 u16 u17 u46 u47 u48 u49 u50 u51 u52 u53 u54 u55 u56 u57 u58 u59 u60 u61 u62 u63 u64 u65 u66 u67 u68 u69 u70 u71 u72 u73 u74 u75 u76 u77 u78 u79 u80 u81 u82 u83 u84 u85 u86 u87 u88 u89 u90 u91 u92 u93 u94 u95 u96 u97 u98 u99 u100 u101 u102 u103 u104 u105 u106 u107 u108 u109 u110 u111 u112 u113 u114 u115 u116 u117 u118 u119 u120 u121 u122 u123 u124 u125 u126 u127 u128 u129 u130 u131 u132 u133 u134 u135 u136 u137 u138 u139 u140 u141 u142 u143 u144 u145 u146 u147 u148 u149 u150 u151 u152 u153 u154 u155 u156 u157 u158 u159 u160 u161 u162 u163 u164 u165 u166 u167 u168 u169 u170 u171 u172 u173 u174 u175 u176 u177 u178 u179 u180 u181 u182 u183 u184 u185 u186 u187 u188 u189 u190 u191 u192 u193 u194 u195 u196 u197 u198 u199 u200 u201 u202 u203 u204 u205 u206 u207 u208 u209 u210 u211 u212 k p r a Y s X HL HX HE HGA HFX HPH HLE hle hne9 HN9 c0 yl HWN h4 hb4
    exact HP1.out
   ·have hb4:(s.ph==4)=false:=by simp [h4]
    have HN4:=Lh (show p.ph≠4 from fun h=>h4 (HPH.out.trans h))
    clear h4
    have HLB:=Lh (show Lh16 C k p r a s/\1<=r from ⟨HL.out,HLE.out.2⟩)
    clear HL HLE HFX
    go_upto_region 20 with (fail)
    clear hb4 c0 yl hne9 hle
    obtain ⟨p2,r3,hrk,hle,hsm,a2,s2,hhx,hcall⟩:=hx_step (n:=(k:Int)+1) HCK.out HLB.out.1.rk HLB.out.1.hx HN4.out HN9.out HX.out.ar HX.out.se
    rw [HCT.out.1] at hcall
    have HST:=Lh hcall
    have HL2:=Lh (show Lh16 C (k+1) p2 r3 a2 s2 from ⟨hrk,hhx,by have:=HLB.out.1.n;omega⟩)
    have HNW:=Lh HX.out.bel.size
    have HAL:=Lh (show a.sl.length=N from HLB.out.1.hx.1.sl.trans HCT.out.2.2)
    clear hrk hle hsm hhx hcall HLB HPH HN4 HN9
    refine wp_region_list ?_
    refine wpList_load_mid rfl 36 _ rfl u1 0 rfl (acl15 a Y) _ HX.out.r1.range (Tryz.underlying36) rfl info_ar15 ?_
    try simp only [Act.put,sIA,sIB,sIC]
    refine wpList_load_mid rfl 53 _ rfl u3 0 rfl (scl15 s X) _ HX.out.r3.range (Tryz.underlying53) rfl info_se ?_
    try simp only [Act.put,sIA,sIB,sIC]
    refine wpList_plain rfl (fun K hK=>?_)
    go_simp
    refine hK _ _ ?_
    clear hK K
    try simp only [Act.put,sIA,sIB,sIC]
    refine wpList_plain rfl (fun K hK=>?_)
    go_simp
    go_at_call 13
    refine (HST.out).mono ?_
    rintro e w5 ⟨Y2,X2,rfl,hyn,hxn,har,hse,hb⟩
    have R6:=Lh (Rb.start w5 zAl16 36)
    have R7:=Lh (Rb.start (w5.alloc zAo16) zSl16 53)
    rw [show (w5.alloc zAo16).heap.size=w5.heap.size+1 by simp] at R7
    have hal1:=(Below.refl w5.heap.size w5).alloc (nLR _) zAo16
    have hal2:=hal1.alloc (by simp) zSo16
    replace R6:=Lh (R6.out.up ((Below.refl _ _).alloc (nLR _) zSo16))
    have HQ:=Lh (show u1<w5.heap.size/\u3<w5.heap.size from ⟨Nat.lt_of_lt_of_le HX.out.r1.lt hb.size,Nat.lt_of_lt_of_le HX.out.r3.lt hb.size⟩)
    have HN:=Lh (show (AOff a2 Y2 u1/\AOff a2 Y2 u3)/\ROff (s2.rows X2) u1/\ROff (s2.rows X2) u3 from ⟨⟨hyn.off HX.out.r1.lt,hyn.off HX.out.r3.lt⟩,hxn.off HX.out.r1.lt,hxn.off HX.out.r3.lt⟩)
    have HO:=Lh (show (AOff a2 Y2 w5.heap.size/\AOff a2 Y2 (w5.heap.size+1))/\ROff (s2.rows X2) w5.heap.size/\ROff (s2.rows X2) (w5.heap.size+1) from ⟨⟨har.offs (nLR _),har.offs (by omega)⟩,hse.r.offs (nLR _),hse.r.offs (by omega)⟩)
    have HXO:=Lh (show (AOff a Y w5.heap.size/\AOff a Y (w5.heap.size+1))/\ROff (s.rows X) w5.heap.size/\ROff (s.rows X) (w5.heap.size+1) from ⟨⟨(HX.out.ar.up hb).offs (nLR _),(HX.out.ar.up hb).offs (by omega)⟩,(HX.out.se.up hb).r.offs (nLR _),(HX.out.se.up hb).r.offs (by omega)⟩)
    have HEN:=Lh (And.intro ((HE.out.up hb).new (u:=w5.heap.size) (nLR _)) ((HE.out.up hb).new (u:=w5.heap.size+1) (by omega)))
    have HGO:=Lh (show ∀ q,(some g)=some q->AOff a2 Y2 q/\ROff (s2.rows X2) q from fun q e=>⟨hyn.off (HE.out.g q e).1.2.1,hxn.off (HE.out.g q e).1.2.1⟩)
    have HNW5:=Lh (show w.heap.size<=w5.heap.size from Nat.le_trans HNW.out hb.size)
    have HAR:=Lh ((har.below hal2).more hal2.size)
    have HSE:=Lh ((hse.below hal2).more hal2.size)
    replace HE:=Lh ((HE.out.up hb).up hal2)
    replace HX:=Lh ((HX.out.up hb).up hal2)
    clear hyn hxn har hse hb hal1 hal2
    refine hK _ _ ?_
    clear hK K
    try simp only [Act.put,sIA,sIB,sIC]
    iterate 6
     refine wpList_plain rfl (fun K hK=>?_)
     go_simp
     refine hK _ _ ?_
     clear hK K
     try simp only [Act.put,sIA,sIB,sIC]
    refine wpList_plain rfl (fun K hK=>?_)
    refine wp_store_st 36 _ _ rfl w5.heap.size zAl16 (acl15 a2 Y2) rfl rfl R6.out (acl15_len _ _) info_ar15 (acl15_one _ _) ?_
    refine hK _ _ ?_
    clear hK K
    obtain ⟨u6,hu6⟩:∃ x,x=w5.heap.size:=⟨_,rfl⟩
    rw [<-hu6] at R6 R7 HQ HO HXO HNW5 HEN ⊢
    have n67:¬u6=u6+1:=by omega
    have HP6:=Lh (show Rb (stN15 ((w5.alloc zAo16).alloc zSo16) u6 0 (acl15 a2 Y2)) u6 (acl15 a2 Y2)/\Rb (stN15 ((w5.alloc zAo16).alloc zSo16) u6 0 (acl15 a2 Y2)) (u6+1) zSl16/\AR (stN15 ((w5.alloc zAo16).alloc zSo16) u6 0 (acl15 a2 Y2)) (stN15 ((w5.alloc zAo16).alloc zSo16) u6 0 (acl15 a2 Y2)).heap.size a2 Y2/\SeR (stN15 ((w5.alloc zAo16).alloc zSo16) u6 0 (acl15 a2 Y2)) (stN15 ((w5.alloc zAo16).alloc zSo16) u6 0 (acl15 a2 Y2)).heap.size s2 X2 from ⟨R6.out.stN rfl,R7.out.stNo n67 0,by rw [stN15_size];exact HAR.out.stN15 HO.out.1.1 0,by rw [stN15_size];exact HSE.out.stN HO.out.2.1⟩)
    have HX6:=Lh (show Bx15 w u1 u3 a Y s X (stN15 ((w5.alloc zAo16).alloc zSo16) u6 0 (acl15 a2 Y2)) from HX.out.sto (Nat.ne_of_gt HQ.out.1) (Nat.ne_of_gt HQ.out.2) HXO.out.1.1 HXO.out.2.1 HNW5.out)
    have HE6:=Lh (HE.out.sto (o:=0) (vs:=(acl15 a2 Y2)) HEN.out.1.1 HEN.out.1.2 HNW5.out)
    clear R6 R7 HX HAR HSE HE
    generalize stN15 ((w5.alloc zAo16).alloc zSo16) u6 0 (acl15 a2 Y2)=w6 at*
    clear hu6
    try simp only [Act.put,sIA,sIB,sIC]
    refine wpList_plain rfl (fun K hK=>?_)
    refine wp_store_st 53 _ _ rfl (u6+1) zSl16 (scl15 s2 X2) rfl rfl HP6.out.2.1 (scl15_len _ _) info_se (scl15_one _ _) ?_
    refine hK _ _ ?_
    clear hK K
    have HP7:=Lh (show Rb (stN15 w6 (u6+1) 0 (scl15 s2 X2)) u6 (acl15 a2 Y2)/\Rb (stN15 w6 (u6+1) 0 (scl15 s2 X2)) (u6+1) (scl15 s2 X2)/\AR (stN15 w6 (u6+1) 0 (scl15 s2 X2)) (stN15 w6 (u6+1) 0 (scl15 s2 X2)).heap.size a2 Y2/\SeR (stN15 w6 (u6+1) 0 (scl15 s2 X2)) (stN15 w6 (u6+1) 0 (scl15 s2 X2)).heap.size s2 X2 from ⟨HP6.out.1.stNo (fun e=>n67 e.symm) 0,HP6.out.2.1.stN rfl,by rw [stN15_size];exact HP6.out.2.2.1.stN15 HO.out.1.2 0,by rw [stN15_size];exact HP6.out.2.2.2.stN HO.out.2.2⟩)
    have HX7:=Lh (show Bx15 w u1 u3 a Y s X (stN15 w6 (u6+1) 0 (scl15 s2 X2)) from HX6.out.sto (by have:=HQ.out;omega) (by have:=HQ.out;omega) HXO.out.1.2 HXO.out.2.2 (by have:=HNW5.out;omega))
    have HE7:=Lh (HE6.out.sto (o:=0) (vs:=(scl15 s2 X2)) HEN.out.2.1 HEN.out.2.2 (by have:=HNW5.out;omega))
    clear HP6 HX6 HE6
    generalize stN15 w6 (u6+1) 0 (scl15 s2 X2)=w7 at*
    try simp only [Act.put,sIA,sIB,sIC]
    refine wpList_plain rfl (fun K hK=>?_)
    go_simp
    refine hK _ _ ?_
    clear hK K
    try simp only [Act.put,sIA,sIB,sIC]
    have HA2:=Lh (show a2.sl.length=N/\a2.st.length=N from ⟨HL2.out.hx.1.sl.trans HCT.out.2.2,HL2.out.hx.1.st.trans HCT.out.2.2⟩)
    have b0:w7.cell? ⟨u6,0,none⟩=some (.slice Y2.A N Y2.c):=by have h:=HP7.out.1.c 0 _ rfl;rw [HA2.out.1] at h;exact h
    have b1:w7.cell? ⟨u6,1,none⟩=some (.slice Y2.A2 N Y2.c2):=by have h:=HP7.out.1.c 1 _ rfl;rw [HA2.out.2] at h;exact h
    have bl:=HP7.out.1.lt
    have c0:w7.cell? ⟨u1,0,none⟩=some (.slice Y.A N Y.c):=by have h:=HX7.out.r1.c 0 _ rfl;rw [HAL.out] at h;exact h
    have cl:=HX7.out.r1.lt
    have hNN:((N:Int) != (N:Int))=false:=by simp
    go_upto_region 23 with (fail)
    clear b0 b1 bl c0 cl hNN
    have HN11:=Lh (show (Bx15 w u1 u3 a2 Y2 s2 X2 (stN15 (stN15 w7.drew u1 0 (acl15 a2 Y2)) u3 0 (scl15 s2 X2))/\Ex16 w (some g) u1 u3 [⟨1,some ⟨bc,oc,none⟩,cs.length,ics cs⟩] (stN15 (stN15 w7.drew u1 0 (acl15 a2 Y2)) u3 0 (scl15 s2 X2)))/\(stN15 w7.drew u1 0 (acl15 a2 Y2)).rangeAt u6 0 (acl15 a2 Y2)/\(stN15 w7.drew u1 0 (acl15 a2 Y2)).rangeAt (u6+1) 0 (scl15 s2 X2)/\Rb (stN15 w7.drew u1 0 (acl15 a2 Y2)) u3 (scl15 s X)/\(stN15 (stN15 w7.drew u1 0 (acl15 a2 Y2)) u3 0 (scl15 s2 X2)).rangeAt u6 0 (acl15 a2 Y2)/\(stN15 (stN15 w7.drew u1 0 (acl15 a2 Y2)) u3 0 (scl15 s2 X2)).rangeAt (u6+1) 0 (scl15 s2 X2) from by
     have hd:=(Below.refl w7.heap.size w7).drew
     have b0:=HX7.out.up hd
     have b1:=b0.putA (HP7.out.2.2.1.up hd) HN.out.1
     have r6:=(HP7.out.1.up hd).stNo (p:=u1) (vs:=(acl15 a2 Y2)) (by have:=HQ.out;omega) 0
     have r7:=(HP7.out.2.1.up hd).stNo (p:=u1) (vs:=(acl15 a2 Y2)) (by have:=HQ.out;omega) 0
     have se1:SeR (stN15 w7.drew u1 0 (acl15 a2 Y2)) (stN15 w7.drew u1 0 (acl15 a2 Y2)).heap.size s2 X2:=by rw [stN15_size];exact (HP7.out.2.2.2.up hd).stN HN.out.2.1
     exact ⟨⟨b1.putS se1 HN.out.2,((HE7.out.up hd).sto1 (o:=0) (vs:=(acl15 a2 Y2)) HX7.out.ne.1).sto3 (o:=0) (vs:=(scl15 s2 X2)) HX7.out.ne.2.1⟩,r6.range,r7.range,b1.r3,(r6.stNo (p:=u3) (vs:=(scl15 s2 X2)) (by have:=HQ.out;omega) 0).range,(r7.stNo (p:=u3) (vs:=(scl15 s2 X2)) (by have:=HQ.out;omega) 0).range⟩)
    have HS0:=Lh (show w7.drew.rangeAt u6 0 (acl15 a2 Y2)/\w7.drew.rangeAt (u6+1) 0 (scl15 s2 X2) from ⟨(HP7.out.1.up (Below.refl w7.heap.size w7).drew).range,(HP7.out.2.1.up (Below.refl w7.heap.size w7).drew).range⟩)
    have HR1:=Lh (HX7.out.r1.up (Below.refl w7.heap.size w7).drew)
    go_cut [] (fun wx=>Hid (Bx15 w u1 u3 a2 Y2 s2 X2 wx/\Ex16 w (some g) u1 u3 [⟨1,some ⟨bc,oc,none⟩,cs.length,ics cs⟩] wx))
    case first=>
     refine wp_region_noPanic ?_
     refine wp_region_held_drew (S:=fun W=>W.rangeAt u6 0 (acl15 a2 Y2)/\W.rangeAt (u6+1) 0 (scl15 s2 X2)) (by kernel_rfl) ?hS0 (fun hHeld=>?_)
     case hS0=>exact HS0.out
     generalize w7.drew=w8 at*
     refine wpAnyH_take (i:=0) (oi:=?o0x4) (v:=.agg (acl15 a2 Y2).toArray) ?hi0x4 (by kernel_rfl) (by kernel_rfl) (by kernel_rfl) (fun _ _ _ h=>h) ?hy0x4 hHeld ?_
     case hi0x4=>simp only [List.getElem?_toArray,List.getElem?_cons_zero];exact rfl
     case hy0x4=>exact yieldsIf_load_mid rfl 36 _ rfl u6 0 rfl (acl15 a2 Y2) _ (fun w hSw=>hSw.1) (Tryz.underlying36) rfl info_ar15
     try simp only [Act.put,sIA,sIB,sIC]
     refine wpAnyH_take (i:=1) (oi:=?o1x5) (v:=.agg (scl15 s2 X2).toArray) ?hi1x5 (by kernel_rfl) (by kernel_rfl) (by kernel_rfl) (fun _ _ _ h=>h) ?hy1x5 hHeld ?_
     case hi1x5=>simp only [List.getElem?_toArray,List.getElem?_cons_succ,List.getElem?_cons_zero];exact rfl
     case hy1x5=>exact yieldsIf_load_mid rfl 53 _ rfl (u6+1) 0 rfl (scl15 s2 X2) _ (fun w hSw=>hSw.2) (Tryz.underlying53) rfl info_se
     try simp only [Act.put,sIA,sIB,sIC]
     refine wpAnyH_ready (rs:=[2]) (by kernel_rfl) (by simp) ?_
     refine AllReadyH.cons (o:=?o2x6) ?ho2x6 ?st2x6 AllReadyH.nil
     case ho2x6=>simp only [List.getElem?_toArray,List.getElem?_cons_succ,List.getElem?_cons_zero];exact rfl
     case st2x6=>
      intro K hK
      refine wp_store_st 36 _ _ rfl u1 (acl15 a Y) (acl15 a2 Y2) rfl rfl HR1.out rfl info_ar15 (acl15_one _ _) ?_
      refine hK.out _ _ ?hS2x6 (fun hHeld=>?_)
      case hS2x6=>exact ⟨HN11.out.2.1,HN11.out.2.2.1⟩
      clear hK K
      try simp only [Act.put,sIA,sIB,sIC]
      clear hHeld
      have hHeld:=And.intro HN11.out.2.1 HN11.out.2.2.1
      clear HR1 HS0 HX7 HP7 HE7
      generalize stN15 w8 u1 0 (acl15 a2 Y2)=w9 at*
      refine wpAnyH_ready (rs:=[3]) (by kernel_rfl) (by simp) ?_
      refine AllReadyH.cons (o:=?o3x7) ?ho3x7 ?st3x7 AllReadyH.nil
      case ho3x7=>simp only [List.getElem?_toArray,List.getElem?_cons_succ,List.getElem?_cons_zero];exact rfl
      case st3x7=>
       intro K hK
       refine wp_store_st 53 _ _ rfl u3 (scl15 s X) (scl15 s2 X2) rfl rfl HN11.out.2.2.2.1 rfl info_se (scl15_one _ _) ?_
       refine hK.out _ _ ?hS3x7 (fun hHeld=>?_)
       case hS3x7=>exact ⟨HN11.out.2.2.2.2.1,HN11.out.2.2.2.2.2⟩
       clear hK K
       try simp only [Act.put,sIA,sIB,sIC]
       clear hHeld
       have HNX:=Lh HN11.out.1
       clear HN11
       generalize stN15 w9 u3 0 (scl15 s2 X2)=w10 at*
       refine wpAnyH_done (by kernel_rfl) ?_ _
       refine NoPanic.normal ?_
       go_wp2_with fail
       go_meet
       exact HNX
    case rest=>
     have HX:=Lh hcut.out.1
     have HE:=Lh hcut.out.2
     have HG2:=Lh (HGO.out g rfl)
     clear hcut HN HO HXO HQ HNW HNW5 HN11 HS0 HR1 HX7 HP7 HEN HE7 HST HGO HGA HAL
     generalize wc=w9 at*
     have HFX:=Lh (rk_fx HCK.out HL2.out.rk)
     have HPH:=Lh (show s2.ph=p2.ph from HL2.out.hx.2.ph)
     go_upto_region 25 with (fail)
     go_loopw [15] (fun iv wr=>∃ i:Nat,iv=.int .i64 (i:Int)/\i<=cs.length/\Hid (Bx15 w u1 u3 a2 Y2 s2 X2 wr)/\Hid (Ex16 w (some g) u1 u3 [⟨1,some ⟨bc,oc,none⟩,cs.length,ics cs⟩] wr)) (fun iv _=>cs.length - (intOf iv).toNat)
     case atStart=>exact ⟨0,rfl,Nat.zero_le _,HX,HE⟩
     case round=>
      clear HX HE
      obtain ⟨i,rfl,hi,HX,HE⟩:=hrel
      by_cases hil:i<cs.length
      ·have hili:(i:Int)<(cs.length:Int):=by omega
       have HI:=Lh hil
       have hilc:i<C.cs.length:=by rw [HCT.out.2.1];exact hil
       obtain ⟨e1,e2,e3,e4⟩:=HCK.out.at_ hilc
       rw [HCT.out.2.2] at e2 e3 e4
       rw [HCT.out.2.1] at e1
       obtain ⟨ci,hci⟩:∃ ci,ci=C.c i:=⟨_,rfl⟩
       rw [<-hci] at e1 e2 e3 e4
       have HCI:=Lh (show (ci<=N/\(i<C.K->ci<N)/\(¬i<C.K->ci=N))/\ci=C.c i/\i<C.cs.length from ⟨⟨e2,e3,e4⟩,hci,hilc⟩)
       have HRC:=Lh (fun W (hE:Ex16 w (some g) u1 u3 [⟨1,some ⟨bc,oc,none⟩,cs.length,ics cs⟩] W)=>show W.cell? ⟨bc,oc+i,none⟩=some (.int .i64 (ci:Int)) from by
        obtain ⟨b',o',hA,-,hcell⟩:=(hE.r _ (List.mem_singleton.2 rfl)).2 (show 0<cs.length by omega)
        injection hA with hA
        injection hA with h1 h2
        subst h1
        subst h2
        have h:=hcell i _ (ics_at16 hil)
        rw [e1] at h
        exact h)
       clear hil hilc e1 e2 e3 e4 hci
       rename_i yb1 yb2 yb3 yb4 yb5 yb6 yb7 yb8 yb9 yb10 yb11 yb12 yb13 yb14 yb15 yb16 yb17 yb18 yb19 yb20 yb21 yb22 yb23 yb24 yb25 yb26 yb27 yb28 yb29 yb30 yb31 yb32 yb33 yb34 yb35 yb36 yb37 yb38 yb39 yb40 yb41 yb42 yb43 yb44 yb45 yb46 yb47 yb48 yb49 yb50 yb51 yb52 yb53 yb54 yb55 yb56 yb57 yb58 yb59 yb60 yb61 yb62 yb63 yb64 yb65 yb66 yb67 yb68 yb69 yb70 yb71 yb72 yb73 yb74 yb75 yb76 yb77 yb78 yb79 yb80 yb81 yb82 yb83 yb84 yb85 yb86 yb87 yb88 yb89 yb90 yb91 yb92 yb93 yb94 yb95 yb96 yb97 yb98 yb99 yb100 yb101 yb102 yb103 yb104 yb105 yb106 yb107 yb108 yb109 yb110 yb111 yb112 yb113 yb114 yb115 yb116 yb117 yb118 yb119 yb120 yb121 yb122 yb123 yb124 yb125 yb126 yb127 yb128 yb129 yb130 yb131 yb132 yb133 yb134 yb135 yb136 yb137 yb138 yb139 yb140 yb141 yb142 yb143 yb144 yb145 yb146 yb147 yb148 yb149 yb150 yb151 yb152 yb153 yb154 yb155 yb156 yb157 yb158 yb159 yb160 yb161 yb162 yb163 yb164 yb165 yb166 yb167 yb168 yb169 yb170 yb171 yb172 yb173 yb174 yb175 yb176 yb177 yb178 yb179 yb180 yb181 yb182 yb183 yb184 yb185 yb186 yb187 yb188 yb189 yb190 yb191 yb192 yb193 yb194 yb195 yb196 yb197 yb198 yb199 yb200 yb201 yb202 yb203 yb204 yb205 yb206 yb207 yb208 yb209 yb210 yb211 yb212 yb213 yb214 yb215 yb216 yb217 yb218 yb219 yb220 yb221 yb222 yb223 yb224 yb225 yb226 yb227 yb228 yb229 yb230 yb231 yb232 yb233 yb234 yb235 yb236 yb237 yb238 yb239 yb240 yb241 yb242 yb243 yb244 yb245 yb246 yb247 yb248 yb249 yb250 yb251 yb252 yb253 yb254 yb255 yb256 yb257 yb258 yb259 yb260 yb261 yb262 yb263 yb264 yb265 yb266 yb267 yb268 yb269 yb270 yb271 yb272 yb273 yb274 yb275 yb276 yb277 yb278 yb279 yb280 yb281 yb282 yb283 yb284 yb285 yb286
       clear HAW HN6 HSL
       revert w a1 l1 c1 zs yb1 w1 g ws su N A0 w2 yb2 u1 w3 w4 cc cs bc oc HCS C HCT S0 HCK yb3 yb4 u3 yb5 yb6 yb7 yb8 yb9 u9 u10 u11 u12 u13 u14 u15 yb10 yb11 yb12 yb13 yb14 yb15 yb16 yb17 yb18 yb19 yb20 yb21 yb22 yb23 yb24 yb25 yb26 yb27 yb28 yb29 yb30 yb31 yb32 yb33 yb34 yb35 yb36 yb37 yb38 yb39 yb40 yb41 yb42 yb43 yb44 yb45 yb46 yb47 yb48 yb49 yb50 yb51 yb52 yb53 yb54 yb55 yb56 yb57 yb58 yb59 yb60 yb61 yb62 yb63 yb64 yb65 yb66 yb67 yb68 yb69 yb70 yb71 yb72 yb73 yb74 yb75 yb76 yb77 yb78 yb79 yb80 yb81 yb82 yb83 yb84 yb85 yb86 yb87 yb88 yb89 yb90 yb91 yb92 yb93 yb94 yb95 yb96 yb97 yb98 yb99 yb100 yb101 yb102 yb103 yb104 yb105 yb106 yb107 yb108 yb109 yb110 yb111 yb112 yb113 yb114 yb115 yb116 yb117 yb118 yb119 yb120 yb121 yb122 yb123 yb124 yb125 yb126 yb127 yb128 yb129 yb130 yb131 yb132 yb133 yb134 yb135 yb136 yb137 yb138 yb139 yb140 yb141 yb142 yb143 yb144 yb145 yb146 yb147 yb148 yb149 yb150 yb151 yb152 yb153 yb154 yb155 yb156 yb157 yb158 yb159 yb160 yb161 yb162 yb163 yb164 yb165 yb166 yb167 yb168 yb169 yb170 yb171 yb172 yb173 yb174 yb175 yb176 yb177 yb178 k p r a Y s X HWN yb179 yb180 yb181 p2 r3 a2 s2 HL2 w5 Y2 X2 u6 n67 w6 w7 HA2 wc u46 u47 u48 u49 u50 u51 u52 u53 u54 u55 u56 u57 u58 u59 u60 u61 u62 u63 u64 u65 u66 u67 u68 u69 u70 u71 u72 u73 u74 u75 u76 u77 u78 u79 u80 u81 u82 u83 u84 u85 u86 u87 u88 u89 u90 u91 u92 u93 u94 u95 u96 u97 u98 u99 u100 u101 u102 u103 u104 u105 u106 u107 yb182 yb183 yb184 yb185 yb186 yb187 yb188 yb189 yb190 yb191 yb192 yb193 yb194 yb195 yb196 yb197 yb198 yb199 yb200 yb201 yb202 yb203 yb204 yb205 yb206 yb207 yb208 yb209 yb210 yb211 yb212 yb213 yb214 yb215 yb216 yb217 yb218 yb219 yb220 yb221 yb222 yb223 yb224 yb225 yb226 yb227 yb228 yb229 yb230 yb231 yb232 yb233 yb234 yb235 yb236 yb237 yb238 yb239 yb240 yb241 yb242 yb243 yb244 yb245 yb246 yb247 yb248 yb249 yb250 yb251 yb252 yb253 yb254 yb255 yb256 yb257 yb258 yb259 yb260 yb261 yb262 yb263 yb264 yb265 yb266 yb267 yb268 yb269 yb270 yb271 yb272 yb273 yb274 yb275 yb276 yb277 yb278 yb279 yb280 yb281 yb282 yb283 yb284 yb285 yb286 HG2 w9 HFX HPH wr u2 u16 u17 u108 u109 u110 u111 u112 u113 u114 u115 u116 u117 u118 u119 u120 u121 u122 u123 u124 u125 u126 u127 u128 u129 u130 u131 u132 u133 u134 u135 u136 u137 u138 u139 u140 u141 u142 u143 u144 u145 u146 u147 u148 u149 u150 u151 u152 u153 u154 u155 u156 u157 u158 u159 u160 u161 u162 u163 u164 u165 u166 u167 u168 u169 u170 u171 u172 u173 u174 u175 u176 u177 u178 u179 u180 u181 u182 u183 u184 u185 u186 u187 u188 u189 u190 u191 u192 u193 u194 u195 u196 u197 u198 u199 u200 u201 u202 u203 u204 u205 u206 u207 u208 u209 u210 u211 u212 i hi HX HE hili HI ci HCI HRC
       exact HP2.out
      ·have hili:¬(i:Int)<(cs.length:Int):=by omega
       have hwn:=HWN.out
       clear hil hi
       go_wp2
       go_roundw
       case rel=>exact ⟨k+1,p2,r3,a2,Y2,s2,X2,by first | rfl | (simp;done) | go_num,HL2,HX,HE,HG2⟩
       case measure=>have:=HL2.out.n;simp [intOf];omega⟩
end Go.Proofs.YtkecnihgjepfeaaGreat
