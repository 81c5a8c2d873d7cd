/- What is proved here: parts of the proof: Uz. -/
import Derived.Test.YtkecnihgjepfeaaGreatJ47
namespace Go.Proofs.YtkecnihgjepfeaaGreat
open Go.RowKit
set_option linter.unusedVariables false
set_option linter.unusedSimpArgs false
set_option maxHeartbeats 8000000
set_option maxRecDepth 20000
def DE15 (w:World) (s:Se) (x:Int) (e:Ending) (w' : World):Prop:=∃ X,e=.returned (.tuple #[sev s X,.int .i64 x])/\RNw (s.rows X) w.heap.size/\SeR w' w'.heap.size s X/\Below w.heap.size w w'
def ocl15 (o:Ou) (Z:Oux):List Value:=[.slice Z.A o.sh.length Z.c,.int .i64 o.dc,.slice Z.Ad o.dl.length Z.cd,.slice Z.Ao o.od.length Z.co,.slice Z.Ac o.ca.length Z.cc,.slice Z.Ae o.ed.length Z.ce]
theorem wp_store_so {P:Program} {op:Oper} {a:Act} {w:World} {K:Act->World->Prop} {Q:Exit->Act->World->Prop} (ty:TypeId) (x y:Operand) (ho:op.op=.store ty x y) (q o:Nat) (cs:List Value) (hx:a.eval x=.pointer (some ⟨q,o,none⟩)) (hy:a.eval y=.agg cs.toArray) (ht:w.there q o cs.length) (hi:(P.info? ty).map (·.size)=some cs.length) (h1:cs.toArray.all (·.oneCell')=true) (h:K (a.put op.dst undef) (stN15 w q o cs)):op.wp P a w K Q:=by
 refine wp_store_mid ty x y ho q o cs.toArray hx hy (by simpa using ht) (by simpa using hi) h1 ?_
 have e:w.setCells q o cs.toArray.toList=stN15 w q o cs:=by rw [stN15_set]
 rw [e]
 exact h
theorem ocl15_one (o:Ou) (Z:Oux):(ocl15 o Z).toArray.all (·.oneCell')=true:=all_oneCell_toArray (by
 intro v hv
 simp only [ocl15,List.mem_cons,List.not_mem_nil,or_false] at hv
 rcases hv with rfl | rfl | rfl | rfl | rfl | rfl <;> rfl)
theorem Rb.thereo {W:World} {q o n:Nat} {cs:List Value} (h:Rb W q cs) (hl:o+n<=cs.length):W.there q o n:=fun j hj=>by
 have:=h.there (o+j) (by omega)
 rw [Nat.zero_add] at this
 exact this
theorem info_ou15:(Tryz.prog.info? 51).map (·.size)=some 6:=by kernel_rfl
theorem udecide_any (s:Se) (X:Sex) (o:Ou) (Z:Oux) (w:World) (h:SeR w w.heap.size s X) (ho:OuR w w.heap.size o Z) (hs:SmC s) (hso:SmO o) (hph:s.ph=4) (h1:o.sh.length=s.sh.length) (h3:o.od.length<=9) (h4:∀ i,i<o.od.length->(0<=ig o.od i/\ig o.od i<s.lk.cs.length)/\¬ig o.od i∈o.od.take i) (hE:ntE 0 { s with o:=o } 5=0):Calls Tryz.prog 12 #[sev s X,ouv o Z] w (DE15 w (enP 0 { s with o:=o } 5) 0):=by
 obtain ⟨q2,hq2⟩:∃ q,q=w.heap.size:=⟨_,rfl⟩
 obtain ⟨q3,hq3⟩:∃ q,q=w.heap.size+1:=⟨_,rfl⟩
 obtain ⟨q4,hq4⟩:∃ q,q=w.heap.size+2:=⟨_,rfl⟩
 have b1:=(Below.refl w.heap.size w).alloc (nLR _) (.cells #[.int .i64 s.ph,.int .i64 s.at_,.slice X.Al s.lk.cs.length X.cl,.int .i64 s.lk.ph,.int .i64 s.lk.hv,.int .i64 s.lk.tr,.int .i64 s.lk.wt,.int .i64 s.sn.ph,.int .i64 s.sn.ep,.int .i64 s.sn.ck,.int .i64 s.sn.sp,.slice X.A s.sh.length X.c,.int .i64 s.dc,.slice X.Ad s.dl.length X.cd,.slice X.At s.st.length X.ct,.int .i64 s.dir.vn,.slice X.D.A s.dir.l.length X.D.c,.slice X.D.A2 s.dir.F.length X.D.c2,.slice X.o.A s.o.sh.length X.o.c,.int .i64 s.o.dc,.slice X.o.Ad s.o.dl.length X.o.cd,.slice X.o.Ao s.o.od.length X.o.co,.slice X.o.Ac s.o.ca.length X.o.cc,.slice X.o.Ae s.o.ed.length X.o.ce,.int .i64 s.lim,.slice X.Ac s.ca.length X.cc] 53)
 have b2:=b1.alloc (by simp) (.cells #[.slice Z.A o.sh.length Z.c,.int .i64 o.dc,.slice Z.Ad o.dl.length Z.cd,.slice Z.Ao o.od.length Z.co,.slice Z.Ac o.ca.length Z.cc,.slice Z.Ae o.ed.length Z.ce] 51)
 have e1:(w.alloc (.cells #[.int .i64 s.ph,.int .i64 s.at_,.slice X.Al s.lk.cs.length X.cl,.int .i64 s.lk.ph,.int .i64 s.lk.hv,.int .i64 s.lk.tr,.int .i64 s.lk.wt,.int .i64 s.sn.ph,.int .i64 s.sn.ep,.int .i64 s.sn.ck,.int .i64 s.sn.sp,.slice X.A s.sh.length X.c,.int .i64 s.dc,.slice X.Ad s.dl.length X.cd,.slice X.At s.st.length X.ct,.int .i64 s.dir.vn,.slice X.D.A s.dir.l.length X.D.c,.slice X.D.A2 s.dir.F.length X.D.c2,.slice X.o.A s.o.sh.length X.o.c,.int .i64 s.o.dc,.slice X.o.Ad s.o.dl.length X.o.cd,.slice X.o.Ao s.o.od.length X.o.co,.slice X.o.Ac s.o.ca.length X.o.cc,.slice X.o.Ae s.o.ed.length X.o.ce,.int .i64 s.lim,.slice X.Ac s.ca.length X.cc] 53)).heap.size=q3:=by rw [hq3];simp
 have e2:((w.alloc (.cells #[.int .i64 s.ph,.int .i64 s.at_,.slice X.Al s.lk.cs.length X.cl,.int .i64 s.lk.ph,.int .i64 s.lk.hv,.int .i64 s.lk.tr,.int .i64 s.lk.wt,.int .i64 s.sn.ph,.int .i64 s.sn.ep,.int .i64 s.sn.ck,.int .i64 s.sn.sp,.slice X.A s.sh.length X.c,.int .i64 s.dc,.slice X.Ad s.dl.length X.cd,.slice X.At s.st.length X.ct,.int .i64 s.dir.vn,.slice X.D.A s.dir.l.length X.D.c,.slice X.D.A2 s.dir.F.length X.D.c2,.slice X.o.A s.o.sh.length X.o.c,.int .i64 s.o.dc,.slice X.o.Ad s.o.dl.length X.o.cd,.slice X.o.Ao s.o.od.length X.o.co,.slice X.o.Ac s.o.ca.length X.o.cc,.slice X.o.Ae s.o.ed.length X.o.ce,.int .i64 s.lim,.slice X.Ac s.ca.length X.cc] 53)).alloc (.cells #[.slice Z.A o.sh.length Z.c,.int .i64 o.dc,.slice Z.Ad o.dl.length Z.cd,.slice Z.Ao o.od.length Z.co,.slice Z.Ac o.ca.length Z.cc,.slice Z.Ae o.ed.length Z.ce] 51)).heap.size=q4:=by rw [hq4];simp
 have u1:=fun (W:World) (o:Obj)=>(Below.refl W.heap.size W).alloc (nLR _) o
 have HB:=Lh (b2.alloc (by simp <;> omega) (.cells #[.int .i64 0,.int .i64 0,.slice none 0 0,.int .i64 0,.int .i64 0,.int .i64 0,.int .i64 0,.int .i64 0,.int .i64 0,.int .i64 0,.int .i64 0,.slice none 0 0,.int .i64 0,.slice none 0 0,.slice none 0 0,.int .i64 0,.slice none 0 0,.slice none 0 0,.slice none 0 0,.int .i64 0,.slice none 0 0,.slice none 0 0,.slice none 0 0,.slice none 0 0,.int .i64 0,.slice none 0 0] 53))
 have HQ2:=Lh (show Rb (((w.alloc (.cells #[.int .i64 s.ph,.int .i64 s.at_,.slice X.Al s.lk.cs.length X.cl,.int .i64 s.lk.ph,.int .i64 s.lk.hv,.int .i64 s.lk.tr,.int .i64 s.lk.wt,.int .i64 s.sn.ph,.int .i64 s.sn.ep,.int .i64 s.sn.ck,.int .i64 s.sn.sp,.slice X.A s.sh.length X.c,.int .i64 s.dc,.slice X.Ad s.dl.length X.cd,.slice X.At s.st.length X.ct,.int .i64 s.dir.vn,.slice X.D.A s.dir.l.length X.D.c,.slice X.D.A2 s.dir.F.length X.D.c2,.slice X.o.A s.o.sh.length X.o.c,.int .i64 s.o.dc,.slice X.o.Ad s.o.dl.length X.o.cd,.slice X.o.Ao s.o.od.length X.o.co,.slice X.o.Ac s.o.ca.length X.o.cc,.slice X.o.Ae s.o.ed.length X.o.ce,.int .i64 s.lim,.slice X.Ac s.ca.length X.cc] 53)).alloc (.cells #[.slice Z.A o.sh.length Z.c,.int .i64 o.dc,.slice Z.Ad o.dl.length Z.cd,.slice Z.Ao o.od.length Z.co,.slice Z.Ac o.ca.length Z.cc,.slice Z.Ae o.ed.length Z.ce] 51)).alloc (.cells #[.int .i64 0,.int .i64 0,.slice none 0 0,.int .i64 0,.int .i64 0,.int .i64 0,.int .i64 0,.int .i64 0,.int .i64 0,.int .i64 0,.int .i64 0,.slice none 0 0,.int .i64 0,.slice none 0 0,.slice none 0 0,.int .i64 0,.slice none 0 0,.slice none 0 0,.slice none 0 0,.int .i64 0,.slice none 0 0,.slice none 0 0,.slice none 0 0,.slice none 0 0,.int .i64 0,.slice none 0 0] 53)) q2 (scl15 s X) from by rw [hq2];exact ((Rb.start w (scl15 s X) 53).up (u1 _ _)).up (u1 _ _))
 have HQ3:=Lh (show Rb (((w.alloc (.cells #[.int .i64 s.ph,.int .i64 s.at_,.slice X.Al s.lk.cs.length X.cl,.int .i64 s.lk.ph,.int .i64 s.lk.hv,.int .i64 s.lk.tr,.int .i64 s.lk.wt,.int .i64 s.sn.ph,.int .i64 s.sn.ep,.int .i64 s.sn.ck,.int .i64 s.sn.sp,.slice X.A s.sh.length X.c,.int .i64 s.dc,.slice X.Ad s.dl.length X.cd,.slice X.At s.st.length X.ct,.int .i64 s.dir.vn,.slice X.D.A s.dir.l.length X.D.c,.slice X.D.A2 s.dir.F.length X.D.c2,.slice X.o.A s.o.sh.length X.o.c,.int .i64 s.o.dc,.slice X.o.Ad s.o.dl.length X.o.cd,.slice X.o.Ao s.o.od.length X.o.co,.slice X.o.Ac s.o.ca.length X.o.cc,.slice X.o.Ae s.o.ed.length X.o.ce,.int .i64 s.lim,.slice X.Ac s.ca.length X.cc] 53)).alloc (.cells #[.slice Z.A o.sh.length Z.c,.int .i64 o.dc,.slice Z.Ad o.dl.length Z.cd,.slice Z.Ao o.od.length Z.co,.slice Z.Ac o.ca.length Z.cc,.slice Z.Ae o.ed.length Z.ce] 51)).alloc (.cells #[.int .i64 0,.int .i64 0,.slice none 0 0,.int .i64 0,.int .i64 0,.int .i64 0,.int .i64 0,.int .i64 0,.int .i64 0,.int .i64 0,.int .i64 0,.slice none 0 0,.int .i64 0,.slice none 0 0,.slice none 0 0,.int .i64 0,.slice none 0 0,.slice none 0 0,.slice none 0 0,.int .i64 0,.slice none 0 0,.slice none 0 0,.slice none 0 0,.slice none 0 0,.int .i64 0,.slice none 0 0] 53)) q3 (ocl15 o Z) from by rw [<-e1];exact (Rb.start _ (ocl15 o Z) 51).up (u1 _ _))
 have HQ4:=Lh (show Rb (((w.alloc (.cells #[.int .i64 s.ph,.int .i64 s.at_,.slice X.Al s.lk.cs.length X.cl,.int .i64 s.lk.ph,.int .i64 s.lk.hv,.int .i64 s.lk.tr,.int .i64 s.lk.wt,.int .i64 s.sn.ph,.int .i64 s.sn.ep,.int .i64 s.sn.ck,.int .i64 s.sn.sp,.slice X.A s.sh.length X.c,.int .i64 s.dc,.slice X.Ad s.dl.length X.cd,.slice X.At s.st.length X.ct,.int .i64 s.dir.vn,.slice X.D.A s.dir.l.length X.D.c,.slice X.D.A2 s.dir.F.length X.D.c2,.slice X.o.A s.o.sh.length X.o.c,.int .i64 s.o.dc,.slice X.o.Ad s.o.dl.length X.o.cd,.slice X.o.Ao s.o.od.length X.o.co,.slice X.o.Ac s.o.ca.length X.o.cc,.slice X.o.Ae s.o.ed.length X.o.ce,.int .i64 s.lim,.slice X.Ac s.ca.length X.cc] 53)).alloc (.cells #[.slice Z.A o.sh.length Z.c,.int .i64 o.dc,.slice Z.Ad o.dl.length Z.cd,.slice Z.Ao o.od.length Z.co,.slice Z.Ac o.ca.length Z.cc,.slice Z.Ae o.ed.length Z.ce] 51)).alloc (.cells #[.int .i64 0,.int .i64 0,.slice none 0 0,.int .i64 0,.int .i64 0,.int .i64 0,.int .i64 0,.int .i64 0,.int .i64 0,.int .i64 0,.int .i64 0,.slice none 0 0,.int .i64 0,.slice none 0 0,.slice none 0 0,.int .i64 0,.slice none 0 0,.slice none 0 0,.slice none 0 0,.int .i64 0,.slice none 0 0,.slice none 0 0,.slice none 0 0,.slice none 0 0,.int .i64 0,.slice none 0 0] 53)) q4 [.int .i64 0,.int .i64 0,.slice none 0 0,.int .i64 0,.int .i64 0,.int .i64 0,.int .i64 0,.int .i64 0,.int .i64 0,.int .i64 0,.int .i64 0,.slice none 0 0,.int .i64 0,.slice none 0 0,.slice none 0 0,.int .i64 0,.slice none 0 0,.slice none 0 0,.slice none 0 0,.int .i64 0,.slice none 0 0,.slice none 0 0,.slice none 0 0,.slice none 0 0,.int .i64 0,.slice none 0 0] from by rw [<-e2];exact Rb.start _ [.int .i64 0,.int .i64 0,.slice none 0 0,.int .i64 0,.int .i64 0,.int .i64 0,.int .i64 0,.int .i64 0,.int .i64 0,.int .i64 0,.int .i64 0,.slice none 0 0,.int .i64 0,.slice none 0 0,.slice none 0 0,.int .i64 0,.slice none 0 0,.slice none 0 0,.slice none 0 0,.int .i64 0,.slice none 0 0,.slice none 0 0,.slice none 0 0,.slice none 0 0,.int .i64 0,.slice none 0 0] 53)
 have HIO:=Lh (fun W (k:Below w.heap.size w W)=>show Calls Tryz.prog 29 #[.agg (scl15 s X).toArray,.agg (ocl15 o Z).toArray] W _ from uisout_any s X o Z W ((h.below k).more k.size) ((ho.below k).more k.size) h1 (by rw [hso.ed];exact Nat.zero_le _) ⟨hs.lk,h3⟩ h4)
 have HCS:=Lh (fun W (k:Below w.heap.size w W)=>show Calls Tryz.prog 30 #[.agg (scl15 s X).toArray] W _ from csection_any s X W ((h.below k).more k.size) hs)
 have HCO:=Lh (fun W (k:Below w.heap.size w W)=>show Calls Tryz.prog 27 #[.agg (ocl15 o Z).toArray] W _ from coutcome_any o Z W ((ho.below k).more k.size) hso)
 have HEN:=Lh (fun B p X' W (k:Ur B p { s with o:=o } X' zA zAx 0 0 W)=>uenter_any 5 W k hs.lk (by decide) (by decide))
 have hEN0:ntE zA.sl.length { s with o:=o } 5=0:=hE
 rw [hEN0] at HEN
 obtain ⟨R,hR⟩:∃ x,x=enP 0 { s with o:=o } 5:=⟨_,rfl⟩
 have HR5:=Lh (show enP zA.sl.length { s with o:=o } 5=R from hR.symm)
 rw [HR5.out] at HEN
 rw [<-hR]
 have HQ:=Lh (show w.heap.size<=q4/\q2<q4/\q3<q4 from by omega)
 have HPH:=Lh hph
 clear h ho hs hso hph h1 h3 h4 hE hEN0 hR b1 b2 e1 e2 u1
 go_enter Tryz.func12,Tryz.ntmps12
 go_upto_region 1 with (fail)
 rw [<-hq4,<-hq3,<-hq2]
 clear hq2 hq3 hq4
 generalize ((w.alloc (.cells #[.int .i64 s.ph,.int .i64 s.at_,.slice X.Al s.lk.cs.length X.cl,.int .i64 s.lk.ph,.int .i64 s.lk.hv,.int .i64 s.lk.tr,.int .i64 s.lk.wt,.int .i64 s.sn.ph,.int .i64 s.sn.ep,.int .i64 s.sn.ck,.int .i64 s.sn.sp,.slice X.A s.sh.length X.c,.int .i64 s.dc,.slice X.Ad s.dl.length X.cd,.slice X.At s.st.length X.ct,.int .i64 s.dir.vn,.slice X.D.A s.dir.l.length X.D.c,.slice X.D.A2 s.dir.F.length X.D.c2,.slice X.o.A s.o.sh.length X.o.c,.int .i64 s.o.dc,.slice X.o.Ad s.o.dl.length X.o.cd,.slice X.o.Ao s.o.od.length X.o.co,.slice X.o.Ac s.o.ca.length X.o.cc,.slice X.o.Ae s.o.ed.length X.o.ce,.int .i64 s.lim,.slice X.Ac s.ca.length X.cc] 53)).alloc (.cells #[.slice Z.A o.sh.length Z.c,.int .i64 o.dc,.slice Z.Ad o.dl.length Z.cd,.slice Z.Ao o.od.length Z.co,.slice Z.Ac o.ca.length Z.cc,.slice Z.Ae o.ed.length Z.ce] 51)).alloc (.cells #[.int .i64 0,.int .i64 0,.slice none 0 0,.int .i64 0,.int .i64 0,.int .i64 0,.int .i64 0,.int .i64 0,.int .i64 0,.int .i64 0,.int .i64 0,.slice none 0 0,.int .i64 0,.slice none 0 0,.slice none 0 0,.int .i64 0,.slice none 0 0,.slice none 0 0,.slice none 0 0,.int .i64 0,.slice none 0 0,.slice none 0 0,.slice none 0 0,.slice none 0 0,.int .i64 0,.slice none 0 0] 53)=w1 at*
 have c0:w1.cell? ⟨q2,0,none⟩=some (.int .i64 4):=by rw [<-HPH.out];exact HQ2.out.c 0 _ rfl
 have yl:=HQ2.out.lt
 go_upto_region 3 with (fail)
 clear c0 yl HPH
 refine wp_region_list ?_
 refine wpList_load_mid rfl 53 _ rfl q2 0 rfl (scl15 s X) _ HQ2.out.range (Tryz.underlying53) rfl info_se ?_
 try simp only [Act.put,sIA,sIB,sIC]
 refine wpList_load_mid rfl 51 _ rfl q3 0 rfl (ocl15 o Z) _ HQ3.out.range (Tryz.underlying51) rfl info_ou15 ?_
 try simp only [Act.put,sIA,sIB,sIC]
 refine wpList_plain rfl (fun K hK=>?_)
 go_simp
 go_at_call 29
 refine (HIO.out _ HB.out).mono ?_
 rintro e w2 ⟨rfl,hb⟩
 replace HQ2:=Lh (HQ2.out.up hb)
 replace HQ3:=Lh (HQ3.out.up hb)
 replace HQ4:=Lh (HQ4.out.up hb)
 replace HB:=Lh (HB.out.trans (hb.mono HB.out.size))
 clear hb HIO
 refine hK _ _ ?_
 clear hK K
 try simp only [Act.put,sIA,sIB,sIC]
 go_upto_region 5 with (fail)
 refine wp_region_list ?_
 refine wpList_load_mid rfl 53 _ rfl q2 0 rfl (scl15 s X) _ HQ2.out.range (Tryz.underlying53) rfl info_se ?_
 try simp only [Act.put,sIA,sIB,sIC]
 refine wpList_plain rfl (fun K hK=>?_)
 go_simp
 go_at_call 30
 refine (HCS.out _ HB.out).mono ?_
 rintro e w3 ⟨X1,rfl,hn,hb⟩
 have HB2:=Lh HB.out
 have HQL:=Lh (And.intro HQ2.out.lt (And.intro HQ3.out.lt HQ4.out.lt))
 have HQ3w:=Lh HQ3.out
 have HQ4w:=Lh HQ4.out
 have HBW:=Lh hb
 have HN:=Lh hn
 clear hb HCS hn HB
 refine hK _ _ ?_
 clear hK K
 try simp only [Act.put,sIA,sIB,sIC]
 refine wpList_plain rfl (fun K hK=>?_)
 go_simp
 refine hK _ _ ?_
 clear hK K
 try simp only [Act.put,sIA,sIB,sIC]
 have HP:=Lh (Rb.start w3 [.int .i64 0,.int .i64 0,.slice none 0 0,.int .i64 0,.int .i64 0,.int .i64 0,.int .i64 0,.int .i64 0,.int .i64 0,.int .i64 0,.int .i64 0,.slice none 0 0,.int .i64 0,.slice none 0 0,.slice none 0 0,.int .i64 0,.slice none 0 0,.slice none 0 0,.slice none 0 0,.int .i64 0,.slice none 0 0,.slice none 0 0,.slice none 0 0,.slice none 0 0,.int .i64 0,.slice none 0 0,.slice none 0 0,.slice none 0 0,.int .i64 0,.int .i64 0,.slice none 0 0,.int .i64 0,.slice none 0 0,.slice none 0 0,.int .i64 0,.int .i64 0,.int .i64 0,.int .i64 0,.int .i64 0] 99)
 have hal:=(Below.refl w3.heap.size w3).alloc (nLR _) (.cells #[.int .i64 0,.int .i64 0,.slice none 0 0,.int .i64 0,.int .i64 0,.int .i64 0,.int .i64 0,.int .i64 0,.int .i64 0,.int .i64 0,.int .i64 0,.slice none 0 0,.int .i64 0,.slice none 0 0,.slice none 0 0,.int .i64 0,.slice none 0 0,.slice none 0 0,.slice none 0 0,.int .i64 0,.slice none 0 0,.slice none 0 0,.slice none 0 0,.slice none 0 0,.int .i64 0,.slice none 0 0,.slice none 0 0,.slice none 0 0,.int .i64 0,.int .i64 0,.slice none 0 0,.int .i64 0,.slice none 0 0,.slice none 0 0,.int .i64 0,.int .i64 0,.int .i64 0,.int .i64 0,.int .i64 0] 99)
 have HU:=Lh (show UrS w2 w3.heap.size s X1 zA zAx 0 0 (stN15 (w3.alloc (.cells #[.int .i64 0,.int .i64 0,.slice none 0 0,.int .i64 0,.int .i64 0,.int .i64 0,.int .i64 0,.int .i64 0,.int .i64 0,.int .i64 0,.int .i64 0,.slice none 0 0,.int .i64 0,.slice none 0 0,.slice none 0 0,.int .i64 0,.slice none 0 0,.slice none 0 0,.slice none 0 0,.int .i64 0,.slice none 0 0,.slice none 0 0,.slice none 0 0,.slice none 0 0,.int .i64 0,.slice none 0 0,.slice none 0 0,.slice none 0 0,.int .i64 0,.int .i64 0,.slice none 0 0,.int .i64 0,.slice none 0 0,.slice none 0 0,.int .i64 0,.int .i64 0,.int .i64 0,.int .i64 0,.int .i64 0] 99)) w3.heap.size 0 (rcl s X1 zA zAx 0 0)) from urs_start HP.out rfl HBW.out.size (HBW.out.trans (hal.mono HBW.out.size)) (HN.out.up hal) AR.zero (zAx_nw _) (HN.out.se.r.offs (nLR _)) (aoff_z _) (HN.out.ob.mono (fun b hlt=>And.intro (Nat.ne_of_lt hlt) (aoff_z _))))
 have HBX:=Lh (show Below w2.heap.size w2 (stN15 (w3.alloc (.cells #[.int .i64 0,.int .i64 0,.slice none 0 0,.int .i64 0,.int .i64 0,.int .i64 0,.int .i64 0,.int .i64 0,.int .i64 0,.int .i64 0,.int .i64 0,.slice none 0 0,.int .i64 0,.slice none 0 0,.slice none 0 0,.int .i64 0,.slice none 0 0,.slice none 0 0,.slice none 0 0,.int .i64 0,.slice none 0 0,.slice none 0 0,.slice none 0 0,.slice none 0 0,.int .i64 0,.slice none 0 0,.slice none 0 0,.slice none 0 0,.int .i64 0,.int .i64 0,.slice none 0 0,.int .i64 0,.slice none 0 0,.slice none 0 0,.int .i64 0,.int .i64 0,.int .i64 0,.int .i64 0,.int .i64 0] 99)) w3.heap.size 0 (rcl s X1 zA zAx 0 0)) from stN15_below (HBW.out.trans (hal.mono HBW.out.size)) HBW.out.size 0)
 clear hal
 refine wpList_plain rfl (fun K hK=>?_)
 go_simp
 refine hK _ _ ?_
 clear hK K
 try simp only [Act.put,sIA,sIB,sIC]
 refine wpList_plain rfl (fun K hK=>?_)
 refine wp_store_st 99 _ _ rfl w3.heap.size [.int .i64 0,.int .i64 0,.slice none 0 0,.int .i64 0,.int .i64 0,.int .i64 0,.int .i64 0,.int .i64 0,.int .i64 0,.int .i64 0,.int .i64 0,.slice none 0 0,.int .i64 0,.slice none 0 0,.slice none 0 0,.int .i64 0,.slice none 0 0,.slice none 0 0,.slice none 0 0,.int .i64 0,.slice none 0 0,.slice none 0 0,.slice none 0 0,.slice none 0 0,.int .i64 0,.slice none 0 0,.slice none 0 0,.slice none 0 0,.int .i64 0,.int .i64 0,.slice none 0 0,.int .i64 0,.slice none 0 0,.slice none 0 0,.int .i64 0,.int .i64 0,.int .i64 0,.int .i64 0,.int .i64 0] (rcl s X1 zA zAx 0 0) rfl rfl HP.out rfl info_run15 (rcl_one _ _ _ _ _ _) ?_
 refine hK _ _ ?_
 clear hK K
 try simp only [Act.put,sIA,sIB,sIC]
 replace HQ3:=Lh (HQ3w.out.up HBX.out)
 replace HQ4:=Lh (HQ4w.out.up HBX.out)
 clear HP HN HBW HQ2 HQ3w HQ4w
 obtain ⟨p,hp⟩:∃ p,p=w3.heap.size:=⟨_,rfl⟩
 rw [<-hp] at HU HBX HQ3 HQ4 ⊢
 generalize stN15 (w3.alloc (.cells #[.int .i64 0,.int .i64 0,.slice none 0 0,.int .i64 0,.int .i64 0,.int .i64 0,.int .i64 0,.int .i64 0,.int .i64 0,.int .i64 0,.int .i64 0,.slice none 0 0,.int .i64 0,.slice none 0 0,.slice none 0 0,.int .i64 0,.slice none 0 0,.slice none 0 0,.slice none 0 0,.int .i64 0,.slice none 0 0,.slice none 0 0,.slice none 0 0,.slice none 0 0,.int .i64 0,.slice none 0 0,.slice none 0 0,.slice none 0 0,.int .i64 0,.int .i64 0,.slice none 0 0,.int .i64 0,.slice none 0 0,.slice none 0 0,.int .i64 0,.int .i64 0,.int .i64 0,.int .i64 0,.int .i64 0] 99)) p 0 (rcl s X1 zA zAx 0 0)=w4 at*
 clear hp
 go_upto_region 6 with (fail)
 refine wp_region_list ?_
 refine wpList_load_mid rfl 51 _ rfl q3 0 rfl (ocl15 o Z) _ HQ3.out.range (Tryz.underlying51) rfl info_ou15 ?_
 try simp only [Act.put,sIA,sIB,sIC]
 refine wpList_plain rfl (fun K hK=>?_)
 go_simp
 go_at_call 27
 refine (HCO.out _ (HB2.out.trans (HBX.out.mono HB2.out.size))).mono ?_
 rintro e w5 ⟨Z1,rfl,hno,hou,hbo⟩
 have H5:=Lh (HU.out.ur.up hbo)
 have HO:=Lh (show Ur w2.heap.size p { s with o:=o } { X1 with o:=Z1 } zA zAx 0 0 (stN15 w5 p 18 (ocl15 o Z1)) from H5.out.outc hou (hno.off HU.out.ur.lt) (hno.low (Nat.le_trans HU.out.ur.ne (Nat.le_of_lt HU.out.ur.lt))))
 have HB5:=Lh (show Below w2.heap.size w2 (stN15 w5 p 18 (ocl15 o Z1)) from stN15_below (HBX.out.trans (hbo.mono HBX.out.size)) H5.out.ne 18)
 replace HQ4:=Lh (show Rb (stN15 w5 p 18 (ocl15 o Z1)) q4 [.int .i64 0,.int .i64 0,.slice none 0 0,.int .i64 0,.int .i64 0,.int .i64 0,.int .i64 0,.int .i64 0,.int .i64 0,.int .i64 0,.int .i64 0,.slice none 0 0,.int .i64 0,.slice none 0 0,.slice none 0 0,.int .i64 0,.slice none 0 0,.slice none 0 0,.slice none 0 0,.int .i64 0,.slice none 0 0,.slice none 0 0,.slice none 0 0,.slice none 0 0,.int .i64 0,.slice none 0 0] from (HQ4.out.up hbo).stNo (Nat.ne_of_gt (Nat.lt_of_lt_of_le HQL.out.2.2 H5.out.ne)) 18)
 clear hno hou hbo HU HBX HQ3 HCO
 refine hK _ _ ?_
 clear hK K
 try simp only [Act.put,sIA,sIB,sIC]
 iterate 2
  refine wpList_plain rfl (fun K hK=>?_)
  go_simp
  refine hK _ _ ?_
  clear hK K
  try simp only [Act.put,sIA,sIB,sIC]
 refine wpList_plain rfl (fun K hK=>?_)
 refine wp_store_so 51 _ _ rfl p 18 (ocl15 o Z1) rfl rfl (H5.out.rb.thereo (by rw [rcl_len];show 18+6<=39;decide)) info_ou15 (ocl15_one _ _) ?_
 refine hK _ _ ?_
 clear hK K H5
 try simp only [Act.put,sIA,sIB,sIC]
 generalize stN15 w5 p 18 (ocl15 o Z1)=w6 at*
 go_upto_region 7 with (fail)
 go_wp2_with fail
 refine (HEN.out _ _ _ _ HO.out).mono ?_
 rintro e w7 ⟨X3,Y3,rfl,hu,hbb⟩
 have HB7:=Lh (HB5.out.trans hbb)
 have HU:=Lh hu
 replace HQ4:=Lh (HQ4.out.keepB hbb HQL.out.2.2)
 clear hu hbb HO HB5 HEN
 go_upto_region 10 with (fail)
 refine wp_region_list ?_
 refine wpList_plain rfl (fun K hK=>?_)
 go_simp
 refine hK _ _ ?_
 clear hK K
 try simp only [Act.put,sIA,sIB,sIC]
 refine wpList_load_mid rfl 53 _ rfl p 0 rfl (scl15 R X3) _ (rng_of HU.out.rb).1 (Tryz.underlying53) rfl info_se ?_
 try simp only [Act.put,sIA,sIB,sIC]
 have HF:=Lh (show DE15 w R 0 (.returned (.tuple #[sev R X3,.int .i64 0])) (stN15 w7 q4 0 (scl15 R X3)) from ⟨X3,rfl,HU.out.sn.low HB2.out.size,by rw [stN15_size];exact HU.out.se.stN (HU.out.sn.off HQL.out.2.2),stN15_below (HB2.out.trans (HB7.out.mono HB2.out.size)) HQ.out.1 0⟩)
 have HRB:=Lh (show Rb (stN15 w7 q4 0 (scl15 R X3)) q4 (scl15 R X3) from HQ4.out.stN rfl)
 refine wpList_plain rfl (fun K hK=>?_)
 refine wp_store_st 53 _ _ rfl q4 [.int .i64 0,.int .i64 0,.slice none 0 0,.int .i64 0,.int .i64 0,.int .i64 0,.int .i64 0,.int .i64 0,.int .i64 0,.int .i64 0,.int .i64 0,.slice none 0 0,.int .i64 0,.slice none 0 0,.slice none 0 0,.int .i64 0,.slice none 0 0,.slice none 0 0,.slice none 0 0,.int .i64 0,.slice none 0 0,.slice none 0 0,.slice none 0 0,.slice none 0 0,.int .i64 0,.slice none 0 0] (scl15 R X3) rfl rfl HQ4.out (scl15_len _ _) info_se (scl15_one _ _) ?_
 refine hK _ _ ?_
 clear hK K HQ4 HU HB7
 try simp only [Act.put,sIA,sIB,sIC]
 generalize stN15 w7 q4 0 (scl15 R X3)=w8 at*
 go_wp2
 have hlv:(loadVar 53 ⟨q4,0,none⟩).run Tryz.prog w8=.ok (sev R X3) w8:=run_loadVar_mid w8 q4 0 53 (scl15 R X3) _ HRB.out.range (Tryz.underlying53) rfl info_se
 exact bodyPost_ret (v:=.tuple #[sev R X3,.int .i64 0]) (by simp only [results,Tryz.results12];simp [Sem.run_bind,asAddr,hlv,Act.put]) rfl HF.out
end Go.Proofs.YtkecnihgjepfeaaGreat
