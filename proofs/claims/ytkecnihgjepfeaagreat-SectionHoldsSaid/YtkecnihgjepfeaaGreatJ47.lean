/- What is proved here: parts of the proof: Uy Ux. -/
import Derived.Test.YtkecnihgjepfeaaGreatJ41
import Derived.Test.YtkecnihgjepfeaaGreatJ44
namespace Go.Proofs.YtkecnihgjepfeaaGreat
open Go.RowKit
set_option linter.unusedVariables false
set_option linter.unusedSimpArgs false
set_option maxHeartbeats 8000000
set_option maxRecDepth 20000
abbrev unX (X:Sex):Oux:=⟨X.q,X.A,X.c,X.Ad,X.cd,none,0,none,0,none,0⟩
theorem OuR.un {W:World} {B:Nat} {s:Se} {X:Sex} (h:SeR W B s X):OuR W B (unP s) (unX X):=
 ⟨ou_rows_of (o:=unP s) (X:=unX X) h.shards h.dead.rd (Rd.nil none) (Rd.nil none) (Rd.nil none),⟨h.ok.q,h.ok.qc,h.ok.c.2.1,h.ok.c.2.2.1,cp0,cp0,cp0⟩⟩
theorem SmC.un {s:Se} (h:SmC s):SmO (unP s):=⟨h.sh,h.dl,Nat.zero_le _,Nat.zero_le _,rfl⟩
theorem uunch_any (s:Se) (X:Sex) (w:World) (h:SeR w w.heap.size s X) (hs:SmC s):Calls Tryz.prog 10 #[sev s X] w (OV15 w (unP s)):=by
 obtain ⟨r,hr⟩:∃ r,r=w.heap.size+1:=⟨_,rfl⟩
 have b1:=(Below.refl w.heap.size w).alloc (nLR _) (.cells #[.int .i64 s.ph,.int .i64 s.at_,.slice X.Al s.lk.cs.length X.cl,.int .i64 s.lk.ph,.int .i64 s.lk.hv,.int .i64 s.lk.tr,.int .i64 s.lk.wt,.int .i64 s.sn.ph,.int .i64 s.sn.ep,.int .i64 s.sn.ck,.int .i64 s.sn.sp,.slice X.A s.sh.length X.c,.int .i64 s.dc,.slice X.Ad s.dl.length X.cd,.slice X.At s.st.length X.ct,.int .i64 s.dir.vn,.slice X.D.A s.dir.l.length X.D.c,.slice X.D.A2 s.dir.F.length X.D.c2,.slice X.o.A s.o.sh.length X.o.c,.int .i64 s.o.dc,.slice X.o.Ad s.o.dl.length X.o.cd,.slice X.o.Ao s.o.od.length X.o.co,.slice X.o.Ac s.o.ca.length X.o.cc,.slice X.o.Ae s.o.ed.length X.o.ce,.int .i64 s.lim,.slice X.Ac s.ca.length X.cc] 53)
 have e1:(w.alloc (.cells #[.int .i64 s.ph,.int .i64 s.at_,.slice X.Al s.lk.cs.length X.cl,.int .i64 s.lk.ph,.int .i64 s.lk.hv,.int .i64 s.lk.tr,.int .i64 s.lk.wt,.int .i64 s.sn.ph,.int .i64 s.sn.ep,.int .i64 s.sn.ck,.int .i64 s.sn.sp,.slice X.A s.sh.length X.c,.int .i64 s.dc,.slice X.Ad s.dl.length X.cd,.slice X.At s.st.length X.ct,.int .i64 s.dir.vn,.slice X.D.A s.dir.l.length X.D.c,.slice X.D.A2 s.dir.F.length X.D.c2,.slice X.o.A s.o.sh.length X.o.c,.int .i64 s.o.dc,.slice X.o.Ad s.o.dl.length X.o.cd,.slice X.o.Ao s.o.od.length X.o.co,.slice X.o.Ac s.o.ca.length X.o.cc,.slice X.o.Ae s.o.ed.length X.o.ce,.int .i64 s.lim,.slice X.Ac s.ca.length X.cc] 53)).heap.size=r:=by rw [hr];simp
 have HB:=Lh (b1.alloc (by simp) (.cells #[.slice none 0 0,.int .i64 0,.slice none 0 0,.slice none 0 0,.slice none 0 0,.slice none 0 0] 51))
 have HR:=Lh (show Rb ((w.alloc (.cells #[.int .i64 s.ph,.int .i64 s.at_,.slice X.Al s.lk.cs.length X.cl,.int .i64 s.lk.ph,.int .i64 s.lk.hv,.int .i64 s.lk.tr,.int .i64 s.lk.wt,.int .i64 s.sn.ph,.int .i64 s.sn.ep,.int .i64 s.sn.ck,.int .i64 s.sn.sp,.slice X.A s.sh.length X.c,.int .i64 s.dc,.slice X.Ad s.dl.length X.cd,.slice X.At s.st.length X.ct,.int .i64 s.dir.vn,.slice X.D.A s.dir.l.length X.D.c,.slice X.D.A2 s.dir.F.length X.D.c2,.slice X.o.A s.o.sh.length X.o.c,.int .i64 s.o.dc,.slice X.o.Ad s.o.dl.length X.o.cd,.slice X.o.Ao s.o.od.length X.o.co,.slice X.o.Ac s.o.ca.length X.o.cc,.slice X.o.Ae s.o.ed.length X.o.ce,.int .i64 s.lim,.slice X.Ac s.ca.length X.cc] 53)).alloc (.cells #[.slice none 0 0,.int .i64 0,.slice none 0 0,.slice none 0 0,.slice none 0 0,.slice none 0 0] 51)) r [.slice none 0 0,.int .i64 0,.slice none 0 0,.slice none 0 0,.slice none 0 0,.slice none 0 0] from by rw [<-e1];exact Rb.start _ [.slice none 0 0,.int .i64 0,.slice none 0 0,.slice none 0 0,.slice none 0 0,.slice none 0 0] 51)
 have HQ:=Lh (show Rb ((w.alloc (.cells #[.int .i64 s.ph,.int .i64 s.at_,.slice X.Al s.lk.cs.length X.cl,.int .i64 s.lk.ph,.int .i64 s.lk.hv,.int .i64 s.lk.tr,.int .i64 s.lk.wt,.int .i64 s.sn.ph,.int .i64 s.sn.ep,.int .i64 s.sn.ck,.int .i64 s.sn.sp,.slice X.A s.sh.length X.c,.int .i64 s.dc,.slice X.Ad s.dl.length X.cd,.slice X.At s.st.length X.ct,.int .i64 s.dir.vn,.slice X.D.A s.dir.l.length X.D.c,.slice X.D.A2 s.dir.F.length X.D.c2,.slice X.o.A s.o.sh.length X.o.c,.int .i64 s.o.dc,.slice X.o.Ad s.o.dl.length X.o.cd,.slice X.o.Ao s.o.od.length X.o.co,.slice X.o.Ac s.o.ca.length X.o.cc,.slice X.o.Ae s.o.ed.length X.o.ce,.int .i64 s.lim,.slice X.Ac s.ca.length X.cc] 53)).alloc (.cells #[.slice none 0 0,.int .i64 0,.slice none 0 0,.slice none 0 0,.slice none 0 0,.slice none 0 0] 51)) w.heap.size [.int .i64 s.ph,.int .i64 s.at_,.slice X.Al s.lk.cs.length X.cl,.int .i64 s.lk.ph,.int .i64 s.lk.hv,.int .i64 s.lk.tr,.int .i64 s.lk.wt,.int .i64 s.sn.ph,.int .i64 s.sn.ep,.int .i64 s.sn.ck,.int .i64 s.sn.sp,.slice X.A s.sh.length X.c,.int .i64 s.dc,.slice X.Ad s.dl.length X.cd,.slice X.At s.st.length X.ct,.int .i64 s.dir.vn,.slice X.D.A s.dir.l.length X.D.c,.slice X.D.A2 s.dir.F.length X.D.c2,.slice X.o.A s.o.sh.length X.o.c,.int .i64 s.o.dc,.slice X.o.Ad s.o.dl.length X.o.cd,.slice X.o.Ao s.o.od.length X.o.co,.slice X.o.Ac s.o.ca.length X.o.cc,.slice X.o.Ae s.o.ed.length X.o.ce,.int .i64 s.lim,.slice X.Ac s.ca.length X.cc] from (Rb.start w [.int .i64 s.ph,.int .i64 s.at_,.slice X.Al s.lk.cs.length X.cl,.int .i64 s.lk.ph,.int .i64 s.lk.hv,.int .i64 s.lk.tr,.int .i64 s.lk.wt,.int .i64 s.sn.ph,.int .i64 s.sn.ep,.int .i64 s.sn.ck,.int .i64 s.sn.sp,.slice X.A s.sh.length X.c,.int .i64 s.dc,.slice X.Ad s.dl.length X.cd,.slice X.At s.st.length X.ct,.int .i64 s.dir.vn,.slice X.D.A s.dir.l.length X.D.c,.slice X.D.A2 s.dir.F.length X.D.c2,.slice X.o.A s.o.sh.length X.o.c,.int .i64 s.o.dc,.slice X.o.Ad s.o.dl.length X.o.cd,.slice X.o.Ao s.o.od.length X.o.co,.slice X.o.Ac s.o.ca.length X.o.cc,.slice X.o.Ae s.o.ed.length X.o.ce,.int .i64 s.lim,.slice X.Ac s.ca.length X.cc] 53).up ((Below.refl _ _).alloc (nLR _) _))
 have HC:=Lh (fun W (k:Below w.heap.size w W)=>show Calls Tryz.prog 27 #[.agg #[.slice X.A s.sh.length X.c,.int .i64 s.dc,.slice X.Ad s.dl.length X.cd,.slice none 0 0,.slice none 0 0,.slice none 0 0]] W (OV15 W (unP s)) from coutcome_any (unP s) (unX X) W (((OuR.un h).below k).more k.size) hs.un)
 have HW:=Lh (show w.heap.size<=r from by omega)
 clear h hs b1 e1
 go_enter Tryz.func10,Tryz.ntmps10
 go_upto_region 1 with (fail)
 rw [<-hr]
 obtain ⟨q,hq⟩:∃ q,q=w.heap.size:=⟨_,rfl⟩
 rw [<-hq] at HQ ⊢
 have HQR:=Lh (show q<r by omega)
 clear hr hq
 generalize (w.alloc (.cells #[.int .i64 s.ph,.int .i64 s.at_,.slice X.Al s.lk.cs.length X.cl,.int .i64 s.lk.ph,.int .i64 s.lk.hv,.int .i64 s.lk.tr,.int .i64 s.lk.wt,.int .i64 s.sn.ph,.int .i64 s.sn.ep,.int .i64 s.sn.ck,.int .i64 s.sn.sp,.slice X.A s.sh.length X.c,.int .i64 s.dc,.slice X.Ad s.dl.length X.cd,.slice X.At s.st.length X.ct,.int .i64 s.dir.vn,.slice X.D.A s.dir.l.length X.D.c,.slice X.D.A2 s.dir.F.length X.D.c2,.slice X.o.A s.o.sh.length X.o.c,.int .i64 s.o.dc,.slice X.o.Ad s.o.dl.length X.o.cd,.slice X.o.Ao s.o.od.length X.o.co,.slice X.o.Ac s.o.ca.length X.o.cc,.slice X.o.Ae s.o.ed.length X.o.ce,.int .i64 s.lim,.slice X.Ac s.ca.length X.cc] 53)).alloc (.cells #[.slice none 0 0,.int .i64 0,.slice none 0 0,.slice none 0 0,.slice none 0 0,.slice none 0 0] 51)=w1 at*
 have c11:=HQ.out.c 11 _ rfl
 have c12:=HQ.out.c 12 _ rfl
 have c13:=HQ.out.c 13 _ rfl
 have yl:=HQ.out.lt
 go_wp2_with fail
 clear c11 c12 c13 yl
 refine (HC.out _ HB.out).mono ?_
 rintro e w2 ⟨Z,rfl,hn,hou,hb⟩
 have HR2:=Lh (HR.out.up hb)
 have HF:=Lh (show OV15 w (unP s) (.returned (ouv (unP s) Z)) ((((((w2.setCell ⟨r,0,none⟩ (.slice Z.A (unP s).sh.length Z.c)).setCell ⟨r,1,none⟩ (.int .i64 (unP s).dc)).setCell ⟨r,2,none⟩ (.slice Z.Ad (unP s).dl.length Z.cd)).setCell ⟨r,3,none⟩ (.slice Z.Ao (unP s).od.length Z.co)).setCell ⟨r,4,none⟩ (.slice Z.Ac (unP s).ca.length Z.cc)).setCell ⟨r,5,none⟩ (.slice Z.Ae (unP s).ed.length Z.ce)) from by
  have e:((((((w2.setCell ⟨r,0,none⟩ (.slice Z.A (unP s).sh.length Z.c)).setCell ⟨r,1,none⟩ (.int .i64 (unP s).dc)).setCell ⟨r,2,none⟩ (.slice Z.Ad (unP s).dl.length Z.cd)).setCell ⟨r,3,none⟩ (.slice Z.Ao (unP s).od.length Z.co)).setCell ⟨r,4,none⟩ (.slice Z.Ac (unP s).ca.length Z.cc)).setCell ⟨r,5,none⟩ (.slice Z.Ae (unP s).ed.length Z.ce)).heap.size=w2.heap.size:=by simp
  refine ⟨Z,rfl,hn.low HB.out.size,⟨?_,hou.ok⟩,stN15_below (vs:=[.slice Z.A (unP s).sh.length Z.c,.int .i64 (unP s).dc,.slice Z.Ad (unP s).dl.length Z.cd,.slice Z.Ao (unP s).od.length Z.co,.slice Z.Ac (unP s).ca.length Z.cc,.slice Z.Ae (unP s).ed.length Z.ce]) (HB.out.trans (hb.mono HB.out.size)) HW.out 0⟩
  rw [e]
  exact hou.r.stN (hn.off HR.out.lt) 0 (vs:=[.slice Z.A (unP s).sh.length Z.c,.int .i64 (unP s).dc,.slice Z.Ad (unP s).dl.length Z.cd,.slice Z.Ao (unP s).od.length Z.co,.slice Z.Ac (unP s).ca.length Z.cc,.slice Z.Ae (unP s).ed.length Z.ce]))
 have r0:=HR2.out.c 0 _ rfl
 have r1:=HR2.out.c 1 _ rfl
 have r2:=HR2.out.c 2 _ rfl
 have r3:=HR2.out.c 3 _ rfl
 have r4:=HR2.out.c 4 _ rfl
 have r5:=HR2.out.c 5 _ rfl
 have f0:=HR2.out.f 0
 have f1:=HR2.out.f 1
 have f2:=HR2.out.f 2
 have f3:=HR2.out.f 3
 have f4:=HR2.out.f 4
 have f5:=HR2.out.f 5
 have rl:=HR2.out.lt
 clear hn hou hb HR HR2 HB HC HQ HW HQR
 go_wp2
 exact bodyPost_ret (v:=ouv (unP s) Z) (by simp only [results,Tryz.results10];go_simp <;> rfl) rfl HF.out
theorem Fl.pre {W:World} {B n c i:Nat} {A:Option Addr} {l:List Int} (h:Fl W B (.slice A n c) l) (hi:i<=l.length):Fl W B (.slice A (l.take i).length c) (l.take i):=by
 have hl:=h.len
 have e:(l.take i).length=i:=by simp;omega
 refine ⟨A,c,rfl,by rw [e];omega,hl.2.2,by rw [ics_len],fun h0=>?_⟩
 obtain ⟨b,o,e2,hb,hc⟩:=h.rd.2 (by omega)
 refine ⟨b,o,e2,hb,fun j u hu=>hc j u ?_⟩
 have ep:ics (l.take i)=(ics l).take i:=by simp [ics,List.map_take]
 rw [ep] at hu
 rw [List.getElem?_take] at hu
 by_cases hj:j<i
 ·rw [if_pos hj] at hu;exact hu
 ·rw [if_neg hj] at hu;cases hu
theorem uisout_any (s:Se) (X:Sex) (o:Ou) (Z:Oux) (w:World) (h:SeR w w.heap.size s X) (ho:OuR w w.heap.size o Z) (h1:o.sh.length=s.sh.length) (h2:o.ed.length<=1) (h3:s.lk.cs.length<=9/\o.od.length<=9) (h4:∀ i,i<o.od.length->(0<=ig o.od i/\ig o.od i<s.lk.cs.length)/\¬ig o.od i∈o.od.take i):Calls Tryz.prog 29 #[sev s X,ouv o Z] w fun e w'=>e=.returned (.bool true)/\Below w.heap.size w w':=by
 obtain ⟨q,hq⟩:∃ q,q=w.heap.size:=⟨_,rfl⟩
 obtain ⟨r,hr⟩:∃ r,r=w.heap.size+1:=⟨_,rfl⟩
 have b1:=(Below.refl w.heap.size w).alloc (nLR _) (.cells #[.int .i64 s.ph,.int .i64 s.at_,.slice X.Al s.lk.cs.length X.cl,.int .i64 s.lk.ph,.int .i64 s.lk.hv,.int .i64 s.lk.tr,.int .i64 s.lk.wt,.int .i64 s.sn.ph,.int .i64 s.sn.ep,.int .i64 s.sn.ck,.int .i64 s.sn.sp,.slice X.A s.sh.length X.c,.int .i64 s.dc,.slice X.Ad s.dl.length X.cd,.slice X.At s.st.length X.ct,.int .i64 s.dir.vn,.slice X.D.A s.dir.l.length X.D.c,.slice X.D.A2 s.dir.F.length X.D.c2,.slice X.o.A s.o.sh.length X.o.c,.int .i64 s.o.dc,.slice X.o.Ad s.o.dl.length X.o.cd,.slice X.o.Ao s.o.od.length X.o.co,.slice X.o.Ac s.o.ca.length X.o.cc,.slice X.o.Ae s.o.ed.length X.o.ce,.int .i64 s.lim,.slice X.Ac s.ca.length X.cc] 53)
 have e1:(w.alloc (.cells #[.int .i64 s.ph,.int .i64 s.at_,.slice X.Al s.lk.cs.length X.cl,.int .i64 s.lk.ph,.int .i64 s.lk.hv,.int .i64 s.lk.tr,.int .i64 s.lk.wt,.int .i64 s.sn.ph,.int .i64 s.sn.ep,.int .i64 s.sn.ck,.int .i64 s.sn.sp,.slice X.A s.sh.length X.c,.int .i64 s.dc,.slice X.Ad s.dl.length X.cd,.slice X.At s.st.length X.ct,.int .i64 s.dir.vn,.slice X.D.A s.dir.l.length X.D.c,.slice X.D.A2 s.dir.F.length X.D.c2,.slice X.o.A s.o.sh.length X.o.c,.int .i64 s.o.dc,.slice X.o.Ad s.o.dl.length X.o.cd,.slice X.o.Ao s.o.od.length X.o.co,.slice X.o.Ac s.o.ca.length X.o.cc,.slice X.o.Ae s.o.ed.length X.o.ce,.int .i64 s.lim,.slice X.Ac s.ca.length X.cc] 53)).heap.size=r:=by rw [hr];simp
 have HB:=Lh (b1.alloc (by simp) (.cells #[.slice Z.A o.sh.length Z.c,.int .i64 o.dc,.slice Z.Ad o.dl.length Z.cd,.slice Z.Ao o.od.length Z.co,.slice Z.Ac o.ca.length Z.cc,.slice Z.Ae o.ed.length Z.ce] 51))
 have HQ:=Lh (show Rb ((w.alloc (.cells #[.int .i64 s.ph,.int .i64 s.at_,.slice X.Al s.lk.cs.length X.cl,.int .i64 s.lk.ph,.int .i64 s.lk.hv,.int .i64 s.lk.tr,.int .i64 s.lk.wt,.int .i64 s.sn.ph,.int .i64 s.sn.ep,.int .i64 s.sn.ck,.int .i64 s.sn.sp,.slice X.A s.sh.length X.c,.int .i64 s.dc,.slice X.Ad s.dl.length X.cd,.slice X.At s.st.length X.ct,.int .i64 s.dir.vn,.slice X.D.A s.dir.l.length X.D.c,.slice X.D.A2 s.dir.F.length X.D.c2,.slice X.o.A s.o.sh.length X.o.c,.int .i64 s.o.dc,.slice X.o.Ad s.o.dl.length X.o.cd,.slice X.o.Ao s.o.od.length X.o.co,.slice X.o.Ac s.o.ca.length X.o.cc,.slice X.o.Ae s.o.ed.length X.o.ce,.int .i64 s.lim,.slice X.Ac s.ca.length X.cc] 53)).alloc (.cells #[.slice Z.A o.sh.length Z.c,.int .i64 o.dc,.slice Z.Ad o.dl.length Z.cd,.slice Z.Ao o.od.length Z.co,.slice Z.Ac o.ca.length Z.cc,.slice Z.Ae o.ed.length Z.ce] 51)) q [.int .i64 s.ph,.int .i64 s.at_,.slice X.Al s.lk.cs.length X.cl,.int .i64 s.lk.ph,.int .i64 s.lk.hv,.int .i64 s.lk.tr,.int .i64 s.lk.wt,.int .i64 s.sn.ph,.int .i64 s.sn.ep,.int .i64 s.sn.ck,.int .i64 s.sn.sp,.slice X.A s.sh.length X.c,.int .i64 s.dc,.slice X.Ad s.dl.length X.cd,.slice X.At s.st.length X.ct,.int .i64 s.dir.vn,.slice X.D.A s.dir.l.length X.D.c,.slice X.D.A2 s.dir.F.length X.D.c2,.slice X.o.A s.o.sh.length X.o.c,.int .i64 s.o.dc,.slice X.o.Ad s.o.dl.length X.o.cd,.slice X.o.Ao s.o.od.length X.o.co,.slice X.o.Ac s.o.ca.length X.o.cc,.slice X.o.Ae s.o.ed.length X.o.ce,.int .i64 s.lim,.slice X.Ac s.ca.length X.cc] from by rw [hq];exact (Rb.start w [.int .i64 s.ph,.int .i64 s.at_,.slice X.Al s.lk.cs.length X.cl,.int .i64 s.lk.ph,.int .i64 s.lk.hv,.int .i64 s.lk.tr,.int .i64 s.lk.wt,.int .i64 s.sn.ph,.int .i64 s.sn.ep,.int .i64 s.sn.ck,.int .i64 s.sn.sp,.slice X.A s.sh.length X.c,.int .i64 s.dc,.slice X.Ad s.dl.length X.cd,.slice X.At s.st.length X.ct,.int .i64 s.dir.vn,.slice X.D.A s.dir.l.length X.D.c,.slice X.D.A2 s.dir.F.length X.D.c2,.slice X.o.A s.o.sh.length X.o.c,.int .i64 s.o.dc,.slice X.o.Ad s.o.dl.length X.o.cd,.slice X.o.Ao s.o.od.length X.o.co,.slice X.o.Ac s.o.ca.length X.o.cc,.slice X.o.Ae s.o.ed.length X.o.ce,.int .i64 s.lim,.slice X.Ac s.ca.length X.cc] 53).up ((Below.refl _ _).alloc (nLR _) _))
 have HR:=Lh (show Rb ((w.alloc (.cells #[.int .i64 s.ph,.int .i64 s.at_,.slice X.Al s.lk.cs.length X.cl,.int .i64 s.lk.ph,.int .i64 s.lk.hv,.int .i64 s.lk.tr,.int .i64 s.lk.wt,.int .i64 s.sn.ph,.int .i64 s.sn.ep,.int .i64 s.sn.ck,.int .i64 s.sn.sp,.slice X.A s.sh.length X.c,.int .i64 s.dc,.slice X.Ad s.dl.length X.cd,.slice X.At s.st.length X.ct,.int .i64 s.dir.vn,.slice X.D.A s.dir.l.length X.D.c,.slice X.D.A2 s.dir.F.length X.D.c2,.slice X.o.A s.o.sh.length X.o.c,.int .i64 s.o.dc,.slice X.o.Ad s.o.dl.length X.o.cd,.slice X.o.Ao s.o.od.length X.o.co,.slice X.o.Ac s.o.ca.length X.o.cc,.slice X.o.Ae s.o.ed.length X.o.ce,.int .i64 s.lim,.slice X.Ac s.ca.length X.cc] 53)).alloc (.cells #[.slice Z.A o.sh.length Z.c,.int .i64 o.dc,.slice Z.Ad o.dl.length Z.cd,.slice Z.Ao o.od.length Z.co,.slice Z.Ac o.ca.length Z.cc,.slice Z.Ae o.ed.length Z.ce] 51)) r [.slice Z.A o.sh.length Z.c,.int .i64 o.dc,.slice Z.Ad o.dl.length Z.cd,.slice Z.Ao o.od.length Z.co,.slice Z.Ac o.ca.length Z.cc,.slice Z.Ae o.ed.length Z.ce] from by rw [<-e1];exact Rb.start _ [.slice Z.A o.sh.length Z.c,.int .i64 o.dc,.slice Z.Ad o.dl.length Z.cd,.slice Z.Ao o.od.length Z.co,.slice Z.Ac o.ca.length Z.cc,.slice Z.Ae o.ed.length Z.ce] 51)
 have HF:=Lh (show Fl ((w.alloc (.cells #[.int .i64 s.ph,.int .i64 s.at_,.slice X.Al s.lk.cs.length X.cl,.int .i64 s.lk.ph,.int .i64 s.lk.hv,.int .i64 s.lk.tr,.int .i64 s.lk.wt,.int .i64 s.sn.ph,.int .i64 s.sn.ep,.int .i64 s.sn.ck,.int .i64 s.sn.sp,.slice X.A s.sh.length X.c,.int .i64 s.dc,.slice X.Ad s.dl.length X.cd,.slice X.At s.st.length X.ct,.int .i64 s.dir.vn,.slice X.D.A s.dir.l.length X.D.c,.slice X.D.A2 s.dir.F.length X.D.c2,.slice X.o.A s.o.sh.length X.o.c,.int .i64 s.o.dc,.slice X.o.Ad s.o.dl.length X.o.cd,.slice X.o.Ao s.o.od.length X.o.co,.slice X.o.Ac s.o.ca.length X.o.cc,.slice X.o.Ae s.o.ed.length X.o.ce,.int .i64 s.lim,.slice X.Ac s.ca.length X.cc] 53)).alloc (.cells #[.slice Z.A o.sh.length Z.c,.int .i64 o.dc,.slice Z.Ad o.dl.length Z.cd,.slice Z.Ao o.od.length Z.co,.slice Z.Ac o.ca.length Z.cc,.slice Z.Ae o.ed.length Z.ce] 51)) ((w.alloc (.cells #[.int .i64 s.ph,.int .i64 s.at_,.slice X.Al s.lk.cs.length X.cl,.int .i64 s.lk.ph,.int .i64 s.lk.hv,.int .i64 s.lk.tr,.int .i64 s.lk.wt,.int .i64 s.sn.ph,.int .i64 s.sn.ep,.int .i64 s.sn.ck,.int .i64 s.sn.sp,.slice X.A s.sh.length X.c,.int .i64 s.dc,.slice X.Ad s.dl.length X.cd,.slice X.At s.st.length X.ct,.int .i64 s.dir.vn,.slice X.D.A s.dir.l.length X.D.c,.slice X.D.A2 s.dir.F.length X.D.c2,.slice X.o.A s.o.sh.length X.o.c,.int .i64 s.o.dc,.slice X.o.Ad s.o.dl.length X.o.cd,.slice X.o.Ao s.o.od.length X.o.co,.slice X.o.Ac s.o.ca.length X.o.cc,.slice X.o.Ae s.o.ed.length X.o.ce,.int .i64 s.lim,.slice X.Ac s.ca.length X.cc] 53)).alloc (.cells #[.slice Z.A o.sh.length Z.c,.int .i64 o.dc,.slice Z.Ad o.dl.length Z.cd,.slice Z.Ao o.od.length Z.co,.slice Z.Ac o.ca.length Z.cc,.slice Z.Ae o.ed.length Z.ce] 51)).heap.size (.slice Z.Ao o.od.length Z.co) o.od from (ho.order.below HB.out).more HB.out.size)
 have H3:=Lh h3
 have H4:=Lh h4
 have hb1:((o.sh.length:Int) != (s.sh.length:Int))=false:=by rw [h1];simp
 have hb2:¬(1:Int)<(o.ed.length:Int):=by omega
 clear h ho h1 h2 h3 h4 b1 e1
 go_enter Tryz.func29,Tryz.ntmps29
 go_upto_region 1 with (fail)
 rw [<-hr,<-hq]
 clear hr hq
 generalize (w.alloc (.cells #[.int .i64 s.ph,.int .i64 s.at_,.slice X.Al s.lk.cs.length X.cl,.int .i64 s.lk.ph,.int .i64 s.lk.hv,.int .i64 s.lk.tr,.int .i64 s.lk.wt,.int .i64 s.sn.ph,.int .i64 s.sn.ep,.int .i64 s.sn.ck,.int .i64 s.sn.sp,.slice X.A s.sh.length X.c,.int .i64 s.dc,.slice X.Ad s.dl.length X.cd,.slice X.At s.st.length X.ct,.int .i64 s.dir.vn,.slice X.D.A s.dir.l.length X.D.c,.slice X.D.A2 s.dir.F.length X.D.c2,.slice X.o.A s.o.sh.length X.o.c,.int .i64 s.o.dc,.slice X.o.Ad s.o.dl.length X.o.cd,.slice X.o.Ao s.o.od.length X.o.co,.slice X.o.Ac s.o.ca.length X.o.cc,.slice X.o.Ae s.o.ed.length X.o.ce,.int .i64 s.lim,.slice X.Ac s.ca.length X.cc] 53)).alloc (.cells #[.slice Z.A o.sh.length Z.c,.int .i64 o.dc,.slice Z.Ad o.dl.length Z.cd,.slice Z.Ao o.od.length Z.co,.slice Z.Ac o.ca.length Z.cc,.slice Z.Ae o.ed.length Z.ce] 51)=w1 at*
 have c11:=HQ.out.c 11 _ rfl
 have c2:=HQ.out.c 2 _ rfl
 have yl:=HQ.out.lt
 have r0:=HR.out.c 0 _ rfl
 have r3:=HR.out.c 3 _ rfl
 have r5:=HR.out.c 5 _ rfl
 have rl:=HR.out.lt
 go_wp2_with fail
 clear c11 r0 r5 hb1 hb2
 go_loopw [23] (fun iv wr=>∃ i:Nat,iv=.int .i64 i/\i<=o.od.length/\w1=wr) (fun iv _=>o.od.length - (intOf iv).toNat)
 case atStart=>exact ⟨0,rfl,Nat.zero_le _,rfl⟩
 case round=>
  obtain ⟨i,rfl,hi,rfl⟩:=hrel
  by_cases hlt:i<o.od.length
  ·obtain ⟨b,oo,hA,hbb,hc⟩:=HF.out.atg hlt
   have hlt' : (i:Int)<(o.od.length:Int):=by omega
   have hw:IntKind.i64.wrap ((i:Int)+1)=(i:Int)+1:=IntWalk.i64_in _ (by have:=H3.out;omega)
   obtain ⟨⟨g1,g2⟩,g3⟩:=H4.out i hlt
   have n1:¬ig o.od i<0:=by omega
   have n2:¬(s.lk.cs.length:Int)<=ig o.od i:=by omega
   have HCT:=Lh (ucontains_any Z.Ao Z.co (o.od.take i) (ig o.od i) w1 (HF.out.pre hi) (by simp;have:=H3.out;omega))
   rw [show (o.od.take i).length=i by simp;omega,show decide (ig o.od i∈o.od.take i)=false by simpa using g3] at HCT
   have hcp:=HF.out.len
   have hic:(i:Int)<=(Z.co:Int):=by omega
   have hil:i<=Z.co:=by omega
   have hin:¬(i:Int)<0:=by omega
   have HLT:=Lh hlt
   clear g1 g2 g3 hbb hi hcp hlt
   generalize ig o.od i=V at*
   rw [hA] at HCT r3 ⊢
   go_wp2_with fail
   refine HCT.out.mono ?_
   rintro e w3 ⟨rfl,rfl⟩
   go_wp2
   go_roundw
   case rel=>exact ⟨i+1,by first | rfl | go_num,HLT.out,by first | rfl | trivial⟩
   case measure=>have:=HLT.out;simp [intOf];omega
  ·have hlt' : ¬(i:Int)<(o.od.length:Int):=by omega
   go_wp2
   go_ret
   exact ⟨rfl,HB.out⟩
theorem info_lk15:(Tryz.prog.info? 45).map (·.size)=some 5:=by kernel_rfl
theorem unew15_e (A0:Option Addr) (c0:Nat) (cs:List Int) (lim:Int) (w:World) (hf:Fl w w.heap.size (.slice A0 cs.length c0) cs) (hcase:nwE13 cs≠0):Calls Tryz.prog 9 #[.slice A0 cs.length c0,.int .i64 lim] w (SNr w (nwS15 cs lim) (nwE15 cs lim)):=by
 have HNC:=Lh (fun W (b:Below w.heap.size w W)=>jnew_any A0 c0 cs W ((hf.below b).more b.size))
 obtain ⟨r,hr⟩:∃ r,r=w.heap.size:=⟨_,rfl⟩
 have HR:=Lh (show Rb (w.alloc (.cells #[.int .i64 0,.int .i64 0,.slice none 0 0,.int .i64 0,.int .i64 0,.int .i64 0,.int .i64 0,.int .i64 0,.int .i64 0,.int .i64 0,.int .i64 0,.slice none 0 0,.int .i64 0,.slice none 0 0,.slice none 0 0,.int .i64 0,.slice none 0 0,.slice none 0 0,.slice none 0 0,.int .i64 0,.slice none 0 0,.slice none 0 0,.slice none 0 0,.slice none 0 0,.int .i64 0,.slice none 0 0] 53)) r [.int .i64 0,.int .i64 0,.slice none 0 0,.int .i64 0,.int .i64 0,.int .i64 0,.int .i64 0,.int .i64 0,.int .i64 0,.int .i64 0,.int .i64 0,.slice none 0 0,.int .i64 0,.slice none 0 0,.slice none 0 0,.int .i64 0,.slice none 0 0,.slice none 0 0,.slice none 0 0,.int .i64 0,.slice none 0 0,.slice none 0 0,.slice none 0 0,.slice none 0 0,.int .i64 0,.slice none 0 0] from by rw [hr];exact Rb.start w _ _)
 have HPP:=Lh hr
 have HB:=Lh ((Below.refl w.heap.size w).alloc (nLR _) (.cells #[.int .i64 0,.int .i64 0,.slice none 0 0,.int .i64 0,.int .i64 0,.int .i64 0,.int .i64 0,.int .i64 0,.int .i64 0,.int .i64 0,.int .i64 0,.slice none 0 0,.int .i64 0,.slice none 0 0,.slice none 0 0,.int .i64 0,.slice none 0 0,.slice none 0 0,.slice none 0 0,.int .i64 0,.slice none 0 0,.slice none 0 0,.slice none 0 0,.slice none 0 0,.int .i64 0,.slice none 0 0] 53))
 obtain ⟨M,hM⟩:∃ M,M=nwL13 cs:=⟨_,rfl⟩
 obtain ⟨E,hE⟩:∃ E,E=nwE13 cs:=⟨_,rfl⟩
 obtain ⟨R,hR⟩:∃ R,R=nwS15 cs lim:=⟨_,rfl⟩
 obtain ⟨X,hX⟩:∃ X,X=nwE15 cs lim:=⟨_,rfl⟩
 rw [<-hM,<-hE] at HNC
 rw [<-hE] at hcase
 rw [<-hR,<-hX]
 have HRX:=Lh (show (X=if E≠0 then E else if lim<1\/8<lim then 1 else 0)/\R=if X=0 then lkS M lim else zSe from ⟨by rw [hX,hE];rfl,by rw [hR,hX,hM];rfl⟩)
 have HCA:=Lh hcase
 clear hr hM hE hR hX hf hcase
 go_enter Tryz.func9,Tryz.ntmps9
 go_upto_region 1 with (fail)
 rw [<-HPP.out]
 generalize w.alloc (.cells #[.int .i64 0,.int .i64 0,.slice none 0 0,.int .i64 0,.int .i64 0,.int .i64 0,.int .i64 0,.int .i64 0,.int .i64 0,.int .i64 0,.int .i64 0,.slice none 0 0,.int .i64 0,.slice none 0 0,.slice none 0 0,.int .i64 0,.slice none 0 0,.slice none 0 0,.slice none 0 0,.int .i64 0,.slice none 0 0,.slice none 0 0,.slice none 0 0,.slice none 0 0,.int .i64 0,.slice none 0 0] 53)=w1 at*
 go_wp2_with fail
 refine (HNC.out _ HB.out).mono ?_
 rintro e w2 ⟨A,c,rfl,hn,hl,hb⟩
 have hal:=(Below.refl w2.heap.size w2).alloc (nLR _) (.cells #[.slice A M.cs.length c,.int .i64 M.ph,.int .i64 M.hv,.int .i64 M.tr,.int .i64 M.wt] 45)
 have HK:=Lh (LB.start w2 M A c 45)
 have HL:=Lh (show Nw (r+1) A/\Fl (w2.alloc (.cells #[.slice A M.cs.length c,.int .i64 M.ph,.int .i64 M.hv,.int .i64 M.tr,.int .i64 M.wt] 45)) (w2.alloc (.cells #[.slice A M.cs.length c,.int .i64 M.ph,.int .i64 M.hv,.int .i64 M.tr,.int .i64 M.wt] 45)).heap.size (.slice A M.cs.length c) M.cs from ⟨nw_low hn HR.out.lt,hl.up hal⟩)
 have HRQ:=Lh (show r<w2.heap.size from Nat.lt_of_lt_of_le HR.out.lt hb.size)
 replace HR:=Lh ((HR.out.up hb).up hal)
 replace HB:=Lh ((HB.out.trans (hb.mono HB.out.size)).trans (hal.mono (Nat.le_trans HB.out.size hb.size)))
 clear hn hl hb hal HNC
 go_upto_region 2 with (fail)
 obtain ⟨q,hq⟩:∃ q,q=w2.heap.size:=⟨_,rfl⟩
 rw [<-hq] at HK HRQ ⊢
 clear hq
 generalize w2.alloc (.cells #[.slice A M.cs.length c,.int .i64 M.ph,.int .i64 M.hv,.int .i64 M.tr,.int .i64 M.wt] 45)=w3 at*
 have hE:=HCA.out
 have hne:(E != 0)=true:=bne_iff_ne.2 hE
 have HF:=Lh (show SNr w R X (.returned (.tuple #[.agg #[.int .i64 0,.int .i64 0,.slice none 0 0,.int .i64 0,.int .i64 0,.int .i64 0,.int .i64 0,.int .i64 0,.int .i64 0,.int .i64 0,.int .i64 0,.slice none 0 0,.int .i64 0,.slice none 0 0,.slice none 0 0,.int .i64 0,.slice none 0 0,.slice none 0 0,.slice none 0 0,.int .i64 0,.slice none 0 0,.slice none 0 0,.slice none 0 0,.slice none 0 0,.int .i64 0,.slice none 0 0],.int .i64 E])) (stN15 w3 r 0 [.int .i64 0,.int .i64 0,.slice none 0 0,.int .i64 0,.int .i64 0,.int .i64 0,.int .i64 0,.int .i64 0,.int .i64 0,.int .i64 0,.int .i64 0,.slice none 0 0,.int .i64 0,.slice none 0 0,.slice none 0 0,.int .i64 0,.slice none 0 0,.slice none 0 0,.slice none 0 0,.int .i64 0,.slice none 0 0,.slice none 0 0,.slice none 0 0,.slice none 0 0,.int .i64 0,.slice none 0 0]) from by
  have h1:X=E:=by rw [HRX.out.1,if_pos hE]
  rw [HRX.out.2,h1,if_neg hE]
  exact snr_out (s:=zSe) (X:=zSex) (vs:=[.int .i64 0,.int .i64 0,.slice none 0 0,.int .i64 0,.int .i64 0,.int .i64 0,.int .i64 0,.int .i64 0,.int .i64 0,.int .i64 0,.int .i64 0,.slice none 0 0,.int .i64 0,.slice none 0 0,.slice none 0 0,.int .i64 0,.slice none 0 0,.slice none 0 0,.slice none 0 0,.int .i64 0,.slice none 0 0,.slice none 0 0,.slice none 0 0,.slice none 0 0,.int .i64 0,.slice none 0 0]) (by rw [HPP.out];exact nLR _) HB.out zSe_nw SeR.zero E)
 clear HRX HL HK HB hE HCA
 go_upto_region 3 with (fail)
 refine wp_region_list ?_
 iterate 2
  refine wpList_plain rfl (fun K hK=>?_)
  go_simp
  refine hK _ _ ?_
  clear hK K
  try simp only [Act.put,sIA,sIB,sIC]
 refine wpList_store_rb rfl _ _ _ rfl r [.int .i64 0,.int .i64 0,.slice none 0 0,.int .i64 0,.int .i64 0,.int .i64 0,.int .i64 0,.int .i64 0,.int .i64 0,.int .i64 0,.int .i64 0,.slice none 0 0,.int .i64 0,.slice none 0 0,.slice none 0 0,.int .i64 0,.slice none 0 0,.slice none 0 0,.slice none 0 0,.int .i64 0,.slice none 0 0,.slice none 0 0,.slice none 0 0,.slice none 0 0,.int .i64 0,.slice none 0 0] [.int .i64 0,.int .i64 0,.slice none 0 0,.int .i64 0,.int .i64 0,.int .i64 0,.int .i64 0,.int .i64 0,.int .i64 0,.int .i64 0,.int .i64 0,.slice none 0 0,.int .i64 0,.slice none 0 0,.slice none 0 0,.int .i64 0,.slice none 0 0,.slice none 0 0,.slice none 0 0,.int .i64 0,.slice none 0 0,.slice none 0 0,.slice none 0 0,.slice none 0 0,.int .i64 0,.slice none 0 0] rfl rfl HR.out rfl info_se (by kernel_rfl) ?_
 intro wf hwf hrb
 have HRB:=Lh hrb
 rw [<-hwf] at HF
 clear hwf hrb HR
 go_wp2
 have hlv:(loadVar 53 ⟨r,0,none⟩).run Tryz.prog wf=.ok (.agg #[.int .i64 0,.int .i64 0,.slice none 0 0,.int .i64 0,.int .i64 0,.int .i64 0,.int .i64 0,.int .i64 0,.int .i64 0,.int .i64 0,.int .i64 0,.slice none 0 0,.int .i64 0,.slice none 0 0,.slice none 0 0,.int .i64 0,.slice none 0 0,.slice none 0 0,.slice none 0 0,.int .i64 0,.slice none 0 0,.slice none 0 0,.slice none 0 0,.slice none 0 0,.int .i64 0,.slice none 0 0]) wf:=run_loadVar_mid wf r 0 53 [.int .i64 0,.int .i64 0,.slice none 0 0,.int .i64 0,.int .i64 0,.int .i64 0,.int .i64 0,.int .i64 0,.int .i64 0,.int .i64 0,.int .i64 0,.slice none 0 0,.int .i64 0,.slice none 0 0,.slice none 0 0,.int .i64 0,.slice none 0 0,.slice none 0 0,.slice none 0 0,.int .i64 0,.slice none 0 0,.slice none 0 0,.slice none 0 0,.slice none 0 0,.int .i64 0,.slice none 0 0] _ HRB.out.range (Tryz.underlying53) rfl info_se
 exact bodyPost_ret (v:=.tuple #[.agg #[.int .i64 0,.int .i64 0,.slice none 0 0,.int .i64 0,.int .i64 0,.int .i64 0,.int .i64 0,.int .i64 0,.int .i64 0,.int .i64 0,.int .i64 0,.slice none 0 0,.int .i64 0,.slice none 0 0,.slice none 0 0,.int .i64 0,.slice none 0 0,.slice none 0 0,.slice none 0 0,.int .i64 0,.slice none 0 0,.slice none 0 0,.slice none 0 0,.slice none 0 0,.int .i64 0,.slice none 0 0],.int .i64 E]) (by simp only [results,Tryz.results9];simp [Sem.run_bind,asAddr,hlv]) rfl HF.out
theorem unew15_l (A0:Option Addr) (c0:Nat) (cs:List Int) (lim:Int) (w:World) (hf:Fl w w.heap.size (.slice A0 cs.length c0) cs) (hcase:nwE13 cs=0/\(lim<1\/8<lim)):Calls Tryz.prog 9 #[.slice A0 cs.length c0,.int .i64 lim] w (SNr w (nwS15 cs lim) (nwE15 cs lim)):=by
 have HNC:=Lh (fun W (b:Below w.heap.size w W)=>jnew_any A0 c0 cs W ((hf.below b).more b.size))
 obtain ⟨r,hr⟩:∃ r,r=w.heap.size:=⟨_,rfl⟩
 have HR:=Lh (show Rb (w.alloc (.cells #[.int .i64 0,.int .i64 0,.slice none 0 0,.int .i64 0,.int .i64 0,.int .i64 0,.int .i64 0,.int .i64 0,.int .i64 0,.int .i64 0,.int .i64 0,.slice none 0 0,.int .i64 0,.slice none 0 0,.slice none 0 0,.int .i64 0,.slice none 0 0,.slice none 0 0,.slice none 0 0,.int .i64 0,.slice none 0 0,.slice none 0 0,.slice none 0 0,.slice none 0 0,.int .i64 0,.slice none 0 0] 53)) r [.int .i64 0,.int .i64 0,.slice none 0 0,.int .i64 0,.int .i64 0,.int .i64 0,.int .i64 0,.int .i64 0,.int .i64 0,.int .i64 0,.int .i64 0,.slice none 0 0,.int .i64 0,.slice none 0 0,.slice none 0 0,.int .i64 0,.slice none 0 0,.slice none 0 0,.slice none 0 0,.int .i64 0,.slice none 0 0,.slice none 0 0,.slice none 0 0,.slice none 0 0,.int .i64 0,.slice none 0 0] from by rw [hr];exact Rb.start w _ _)
 have HPP:=Lh hr
 have HB:=Lh ((Below.refl w.heap.size w).alloc (nLR _) (.cells #[.int .i64 0,.int .i64 0,.slice none 0 0,.int .i64 0,.int .i64 0,.int .i64 0,.int .i64 0,.int .i64 0,.int .i64 0,.int .i64 0,.int .i64 0,.slice none 0 0,.int .i64 0,.slice none 0 0,.slice none 0 0,.int .i64 0,.slice none 0 0,.slice none 0 0,.slice none 0 0,.int .i64 0,.slice none 0 0,.slice none 0 0,.slice none 0 0,.slice none 0 0,.int .i64 0,.slice none 0 0] 53))
 obtain ⟨M,hM⟩:∃ M,M=nwL13 cs:=⟨_,rfl⟩
 obtain ⟨E,hE⟩:∃ E,E=nwE13 cs:=⟨_,rfl⟩
 obtain ⟨R,hR⟩:∃ R,R=nwS15 cs lim:=⟨_,rfl⟩
 obtain ⟨X,hX⟩:∃ X,X=nwE15 cs lim:=⟨_,rfl⟩
 rw [<-hM,<-hE] at HNC
 rw [<-hE] at hcase
 rw [<-hR,<-hX]
 have HRX:=Lh (show (X=if E≠0 then E else if lim<1\/8<lim then 1 else 0)/\R=if X=0 then lkS M lim else zSe from ⟨by rw [hX,hE];rfl,by rw [hR,hX,hM];rfl⟩)
 have HCA:=Lh hcase
 clear hr hM hE hR hX hf hcase
 go_enter Tryz.func9,Tryz.ntmps9
 go_upto_region 1 with (fail)
 rw [<-HPP.out]
 generalize w.alloc (.cells #[.int .i64 0,.int .i64 0,.slice none 0 0,.int .i64 0,.int .i64 0,.int .i64 0,.int .i64 0,.int .i64 0,.int .i64 0,.int .i64 0,.int .i64 0,.slice none 0 0,.int .i64 0,.slice none 0 0,.slice none 0 0,.int .i64 0,.slice none 0 0,.slice none 0 0,.slice none 0 0,.int .i64 0,.slice none 0 0,.slice none 0 0,.slice none 0 0,.slice none 0 0,.int .i64 0,.slice none 0 0] 53)=w1 at*
 go_wp2_with fail
 refine (HNC.out _ HB.out).mono ?_
 rintro e w2 ⟨A,c,rfl,hn,hl,hb⟩
 have hal:=(Below.refl w2.heap.size w2).alloc (nLR _) (.cells #[.slice A M.cs.length c,.int .i64 M.ph,.int .i64 M.hv,.int .i64 M.tr,.int .i64 M.wt] 45)
 have HK:=Lh (LB.start w2 M A c 45)
 have HL:=Lh (show Nw (r+1) A/\Fl (w2.alloc (.cells #[.slice A M.cs.length c,.int .i64 M.ph,.int .i64 M.hv,.int .i64 M.tr,.int .i64 M.wt] 45)) (w2.alloc (.cells #[.slice A M.cs.length c,.int .i64 M.ph,.int .i64 M.hv,.int .i64 M.tr,.int .i64 M.wt] 45)).heap.size (.slice A M.cs.length c) M.cs from ⟨nw_low hn HR.out.lt,hl.up hal⟩)
 have HRQ:=Lh (show r<w2.heap.size from Nat.lt_of_lt_of_le HR.out.lt hb.size)
 replace HR:=Lh ((HR.out.up hb).up hal)
 replace HB:=Lh ((HB.out.trans (hb.mono HB.out.size)).trans (hal.mono (Nat.le_trans HB.out.size hb.size)))
 clear hn hl hb hal HNC
 go_upto_region 2 with (fail)
 obtain ⟨q,hq⟩:∃ q,q=w2.heap.size:=⟨_,rfl⟩
 rw [<-hq] at HK HRQ ⊢
 clear hq
 generalize w2.alloc (.cells #[.slice A M.cs.length c,.int .i64 M.ph,.int .i64 M.hv,.int .i64 M.tr,.int .i64 M.wt] 45)=w3 at*
 obtain ⟨rfl,hlim⟩:=HCA.out
 have HF:=Lh (show SNr w R X (.returned (.tuple #[.agg #[.int .i64 0,.int .i64 0,.slice none 0 0,.int .i64 0,.int .i64 0,.int .i64 0,.int .i64 0,.int .i64 0,.int .i64 0,.int .i64 0,.int .i64 0,.slice none 0 0,.int .i64 0,.slice none 0 0,.slice none 0 0,.int .i64 0,.slice none 0 0,.slice none 0 0,.slice none 0 0,.int .i64 0,.slice none 0 0,.slice none 0 0,.slice none 0 0,.slice none 0 0,.int .i64 0,.slice none 0 0],.int .i64 1])) (stN15 w3 r 0 [.int .i64 0,.int .i64 0,.slice none 0 0,.int .i64 0,.int .i64 0,.int .i64 0,.int .i64 0,.int .i64 0,.int .i64 0,.int .i64 0,.int .i64 0,.slice none 0 0,.int .i64 0,.slice none 0 0,.slice none 0 0,.int .i64 0,.slice none 0 0,.slice none 0 0,.slice none 0 0,.int .i64 0,.slice none 0 0,.slice none 0 0,.slice none 0 0,.slice none 0 0,.int .i64 0,.slice none 0 0]) from by
  have h1:X=1:=by rw [HRX.out.1,if_neg (by decide),if_pos hlim]
  rw [HRX.out.2,h1,if_neg (by decide)]
  exact snr_out (s:=zSe) (X:=zSex) (vs:=[.int .i64 0,.int .i64 0,.slice none 0 0,.int .i64 0,.int .i64 0,.int .i64 0,.int .i64 0,.int .i64 0,.int .i64 0,.int .i64 0,.int .i64 0,.slice none 0 0,.int .i64 0,.slice none 0 0,.slice none 0 0,.int .i64 0,.slice none 0 0,.slice none 0 0,.slice none 0 0,.int .i64 0,.slice none 0 0,.slice none 0 0,.slice none 0 0,.slice none 0 0,.int .i64 0,.slice none 0 0]) (by rw [HPP.out];exact nLR _) HB.out zSe_nw SeR.zero 1)
 clear HRX HL HK HB HCA
 rcases hlim with h1 | h8
 ·skip
  go_upto_region 5 with (fail)
  refine wp_region_list ?_
  refine wpList_plain rfl (fun K hK=>?_)
  go_simp
  refine hK _ _ ?_
  clear hK K
  try simp only [Act.put,sIA,sIB,sIC]
  refine wpList_store_rb rfl _ _ _ rfl r [.int .i64 0,.int .i64 0,.slice none 0 0,.int .i64 0,.int .i64 0,.int .i64 0,.int .i64 0,.int .i64 0,.int .i64 0,.int .i64 0,.int .i64 0,.slice none 0 0,.int .i64 0,.slice none 0 0,.slice none 0 0,.int .i64 0,.slice none 0 0,.slice none 0 0,.slice none 0 0,.int .i64 0,.slice none 0 0,.slice none 0 0,.slice none 0 0,.slice none 0 0,.int .i64 0,.slice none 0 0] [.int .i64 0,.int .i64 0,.slice none 0 0,.int .i64 0,.int .i64 0,.int .i64 0,.int .i64 0,.int .i64 0,.int .i64 0,.int .i64 0,.int .i64 0,.slice none 0 0,.int .i64 0,.slice none 0 0,.slice none 0 0,.int .i64 0,.slice none 0 0,.slice none 0 0,.slice none 0 0,.int .i64 0,.slice none 0 0,.slice none 0 0,.slice none 0 0,.slice none 0 0,.int .i64 0,.slice none 0 0] rfl rfl HR.out rfl info_se (by kernel_rfl) ?_
  intro wf hwf hrb
  have HRB:=Lh hrb
  rw [<-hwf] at HF
  clear hwf hrb HR
  go_wp2
  have hlv:(loadVar 53 ⟨r,0,none⟩).run Tryz.prog wf=.ok (.agg #[.int .i64 0,.int .i64 0,.slice none 0 0,.int .i64 0,.int .i64 0,.int .i64 0,.int .i64 0,.int .i64 0,.int .i64 0,.int .i64 0,.int .i64 0,.slice none 0 0,.int .i64 0,.slice none 0 0,.slice none 0 0,.int .i64 0,.slice none 0 0,.slice none 0 0,.slice none 0 0,.int .i64 0,.slice none 0 0,.slice none 0 0,.slice none 0 0,.slice none 0 0,.int .i64 0,.slice none 0 0]) wf:=run_loadVar_mid wf r 0 53 [.int .i64 0,.int .i64 0,.slice none 0 0,.int .i64 0,.int .i64 0,.int .i64 0,.int .i64 0,.int .i64 0,.int .i64 0,.int .i64 0,.int .i64 0,.slice none 0 0,.int .i64 0,.slice none 0 0,.slice none 0 0,.int .i64 0,.slice none 0 0,.slice none 0 0,.slice none 0 0,.int .i64 0,.slice none 0 0,.slice none 0 0,.slice none 0 0,.slice none 0 0,.int .i64 0,.slice none 0 0] _ HRB.out.range (Tryz.underlying53) rfl info_se
  exact bodyPost_ret (v:=.tuple #[.agg #[.int .i64 0,.int .i64 0,.slice none 0 0,.int .i64 0,.int .i64 0,.int .i64 0,.int .i64 0,.int .i64 0,.int .i64 0,.int .i64 0,.int .i64 0,.slice none 0 0,.int .i64 0,.slice none 0 0,.slice none 0 0,.int .i64 0,.slice none 0 0,.slice none 0 0,.slice none 0 0,.int .i64 0,.slice none 0 0,.slice none 0 0,.slice none 0 0,.slice none 0 0,.int .i64 0,.slice none 0 0],.int .i64 1]) (by simp only [results,Tryz.results9];simp [Sem.run_bind,asAddr,hlv]) rfl HF.out
 ·have h1:¬lim<1:=by omega
  go_upto_region 5 with (fail)
  refine wp_region_list ?_
  refine wpList_plain rfl (fun K hK=>?_)
  go_simp
  refine hK _ _ ?_
  clear hK K
  try simp only [Act.put,sIA,sIB,sIC]
  refine wpList_store_rb rfl _ _ _ rfl r [.int .i64 0,.int .i64 0,.slice none 0 0,.int .i64 0,.int .i64 0,.int .i64 0,.int .i64 0,.int .i64 0,.int .i64 0,.int .i64 0,.int .i64 0,.slice none 0 0,.int .i64 0,.slice none 0 0,.slice none 0 0,.int .i64 0,.slice none 0 0,.slice none 0 0,.slice none 0 0,.int .i64 0,.slice none 0 0,.slice none 0 0,.slice none 0 0,.slice none 0 0,.int .i64 0,.slice none 0 0] [.int .i64 0,.int .i64 0,.slice none 0 0,.int .i64 0,.int .i64 0,.int .i64 0,.int .i64 0,.int .i64 0,.int .i64 0,.int .i64 0,.int .i64 0,.slice none 0 0,.int .i64 0,.slice none 0 0,.slice none 0 0,.int .i64 0,.slice none 0 0,.slice none 0 0,.slice none 0 0,.int .i64 0,.slice none 0 0,.slice none 0 0,.slice none 0 0,.slice none 0 0,.int .i64 0,.slice none 0 0] rfl rfl HR.out rfl info_se (by kernel_rfl) ?_
  intro wf hwf hrb
  have HRB:=Lh hrb
  rw [<-hwf] at HF
  clear hwf hrb HR
  go_wp2
  have hlv:(loadVar 53 ⟨r,0,none⟩).run Tryz.prog wf=.ok (.agg #[.int .i64 0,.int .i64 0,.slice none 0 0,.int .i64 0,.int .i64 0,.int .i64 0,.int .i64 0,.int .i64 0,.int .i64 0,.int .i64 0,.int .i64 0,.slice none 0 0,.int .i64 0,.slice none 0 0,.slice none 0 0,.int .i64 0,.slice none 0 0,.slice none 0 0,.slice none 0 0,.int .i64 0,.slice none 0 0,.slice none 0 0,.slice none 0 0,.slice none 0 0,.int .i64 0,.slice none 0 0]) wf:=run_loadVar_mid wf r 0 53 [.int .i64 0,.int .i64 0,.slice none 0 0,.int .i64 0,.int .i64 0,.int .i64 0,.int .i64 0,.int .i64 0,.int .i64 0,.int .i64 0,.int .i64 0,.slice none 0 0,.int .i64 0,.slice none 0 0,.slice none 0 0,.int .i64 0,.slice none 0 0,.slice none 0 0,.slice none 0 0,.int .i64 0,.slice none 0 0,.slice none 0 0,.slice none 0 0,.slice none 0 0,.int .i64 0,.slice none 0 0] _ HRB.out.range (Tryz.underlying53) rfl info_se
  exact bodyPost_ret (v:=.tuple #[.agg #[.int .i64 0,.int .i64 0,.slice none 0 0,.int .i64 0,.int .i64 0,.int .i64 0,.int .i64 0,.int .i64 0,.int .i64 0,.int .i64 0,.int .i64 0,.slice none 0 0,.int .i64 0,.slice none 0 0,.slice none 0 0,.int .i64 0,.slice none 0 0,.slice none 0 0,.slice none 0 0,.int .i64 0,.slice none 0 0,.slice none 0 0,.slice none 0 0,.slice none 0 0,.int .i64 0,.slice none 0 0],.int .i64 1]) (by simp only [results,Tryz.results9];simp [Sem.run_bind,asAddr,hlv]) rfl HF.out
theorem unew15_k (A0:Option Addr) (c0:Nat) (cs:List Int) (lim:Int) (w:World) (hf:Fl w w.heap.size (.slice A0 cs.length c0) cs) (hcase:nwE13 cs=0/\¬(lim<1\/8<lim)):Calls Tryz.prog 9 #[.slice A0 cs.length c0,.int .i64 lim] w (SNr w (nwS15 cs lim) (nwE15 cs lim)):=by
 have HNC:=Lh (fun W (b:Below w.heap.size w W)=>jnew_any A0 c0 cs W ((hf.below b).more b.size))
 obtain ⟨r,hr⟩:∃ r,r=w.heap.size:=⟨_,rfl⟩
 have HR:=Lh (show Rb (w.alloc (.cells #[.int .i64 0,.int .i64 0,.slice none 0 0,.int .i64 0,.int .i64 0,.int .i64 0,.int .i64 0,.int .i64 0,.int .i64 0,.int .i64 0,.int .i64 0,.slice none 0 0,.int .i64 0,.slice none 0 0,.slice none 0 0,.int .i64 0,.slice none 0 0,.slice none 0 0,.slice none 0 0,.int .i64 0,.slice none 0 0,.slice none 0 0,.slice none 0 0,.slice none 0 0,.int .i64 0,.slice none 0 0] 53)) r [.int .i64 0,.int .i64 0,.slice none 0 0,.int .i64 0,.int .i64 0,.int .i64 0,.int .i64 0,.int .i64 0,.int .i64 0,.int .i64 0,.int .i64 0,.slice none 0 0,.int .i64 0,.slice none 0 0,.slice none 0 0,.int .i64 0,.slice none 0 0,.slice none 0 0,.slice none 0 0,.int .i64 0,.slice none 0 0,.slice none 0 0,.slice none 0 0,.slice none 0 0,.int .i64 0,.slice none 0 0] from by rw [hr];exact Rb.start w _ _)
 have HPP:=Lh hr
 have HB:=Lh ((Below.refl w.heap.size w).alloc (nLR _) (.cells #[.int .i64 0,.int .i64 0,.slice none 0 0,.int .i64 0,.int .i64 0,.int .i64 0,.int .i64 0,.int .i64 0,.int .i64 0,.int .i64 0,.int .i64 0,.slice none 0 0,.int .i64 0,.slice none 0 0,.slice none 0 0,.int .i64 0,.slice none 0 0,.slice none 0 0,.slice none 0 0,.int .i64 0,.slice none 0 0,.slice none 0 0,.slice none 0 0,.slice none 0 0,.int .i64 0,.slice none 0 0] 53))
 obtain ⟨M,hM⟩:∃ M,M=nwL13 cs:=⟨_,rfl⟩
 obtain ⟨E,hE⟩:∃ E,E=nwE13 cs:=⟨_,rfl⟩
 obtain ⟨R,hR⟩:∃ R,R=nwS15 cs lim:=⟨_,rfl⟩
 obtain ⟨X,hX⟩:∃ X,X=nwE15 cs lim:=⟨_,rfl⟩
 rw [<-hM,<-hE] at HNC
 rw [<-hE] at hcase
 rw [<-hR,<-hX]
 have HRX:=Lh (show (X=if E≠0 then E else if lim<1\/8<lim then 1 else 0)/\R=if X=0 then lkS M lim else zSe from ⟨by rw [hX,hE];rfl,by rw [hR,hX,hM];rfl⟩)
 have HCA:=Lh hcase
 clear hr hM hE hR hX hf hcase
 go_enter Tryz.func9,Tryz.ntmps9
 go_upto_region 1 with (fail)
 rw [<-HPP.out]
 generalize w.alloc (.cells #[.int .i64 0,.int .i64 0,.slice none 0 0,.int .i64 0,.int .i64 0,.int .i64 0,.int .i64 0,.int .i64 0,.int .i64 0,.int .i64 0,.int .i64 0,.slice none 0 0,.int .i64 0,.slice none 0 0,.slice none 0 0,.int .i64 0,.slice none 0 0,.slice none 0 0,.slice none 0 0,.int .i64 0,.slice none 0 0,.slice none 0 0,.slice none 0 0,.slice none 0 0,.int .i64 0,.slice none 0 0] 53)=w1 at*
 go_wp2_with fail
 refine (HNC.out _ HB.out).mono ?_
 rintro e w2 ⟨A,c,rfl,hn,hl,hb⟩
 have hal:=(Below.refl w2.heap.size w2).alloc (nLR _) (.cells #[.slice A M.cs.length c,.int .i64 M.ph,.int .i64 M.hv,.int .i64 M.tr,.int .i64 M.wt] 45)
 have HK:=Lh (LB.start w2 M A c 45)
 have HKR:=Lh (Rb.start w2 [.slice A M.cs.length c,.int .i64 M.ph,.int .i64 M.hv,.int .i64 M.tr,.int .i64 M.wt] 45)
 have HL:=Lh (show Nw (r+1) A/\Fl (w2.alloc (.cells #[.slice A M.cs.length c,.int .i64 M.ph,.int .i64 M.hv,.int .i64 M.tr,.int .i64 M.wt] 45)) (w2.alloc (.cells #[.slice A M.cs.length c,.int .i64 M.ph,.int .i64 M.hv,.int .i64 M.tr,.int .i64 M.wt] 45)).heap.size (.slice A M.cs.length c) M.cs from ⟨nw_low hn HR.out.lt,hl.up hal⟩)
 have HRQ:=Lh (show r<w2.heap.size from Nat.lt_of_lt_of_le HR.out.lt hb.size)
 replace HR:=Lh ((HR.out.up hb).up hal)
 replace HB:=Lh ((HB.out.trans (hb.mono HB.out.size)).trans (hal.mono (Nat.le_trans HB.out.size hb.size)))
 clear hn hl hb hal HNC
 go_upto_region 2 with (fail)
 obtain ⟨q,hq⟩:∃ q,q=w2.heap.size:=⟨_,rfl⟩
 rw [<-hq] at HK HKR HRQ ⊢
 clear hq
 generalize w2.alloc (.cells #[.slice A M.cs.length c,.int .i64 M.ph,.int .i64 M.hv,.int .i64 M.tr,.int .i64 M.wt] 45)=w3 at*
 obtain ⟨rfl,hlim⟩:=HCA.out
 have h1:¬lim<1:=by omega
 have h8:¬8<lim:=by omega
 have HF:=Lh (show ∀ W,Below w3.heap.size w3 W->SNr w R X (.returned (.tuple #[.agg #[.int .i64 0,.int .i64 0,.slice A M.cs.length c,.int .i64 M.ph,.int .i64 M.hv,.int .i64 M.tr,.int .i64 M.wt,.int .i64 0,.int .i64 0,.int .i64 0,.int .i64 0,.slice none 0 0,.int .i64 0,.slice none 0 0,.slice none 0 0,.int .i64 0,.slice none 0 0,.slice none 0 0,.slice none 0 0,.int .i64 0,.slice none 0 0,.slice none 0 0,.slice none 0 0,.slice none 0 0,.int .i64 lim,.slice none 0 0],.int .i64 0])) (stN15 W r 0 [.int .i64 0,.int .i64 0,.slice A M.cs.length c,.int .i64 M.ph,.int .i64 M.hv,.int .i64 M.tr,.int .i64 M.wt,.int .i64 0,.int .i64 0,.int .i64 0,.int .i64 0,.slice none 0 0,.int .i64 0,.slice none 0 0,.slice none 0 0,.int .i64 0,.slice none 0 0,.slice none 0 0,.slice none 0 0,.int .i64 0,.slice none 0 0,.slice none 0 0,.slice none 0 0,.slice none 0 0,.int .i64 lim,.slice none 0 0]) from fun W k=>by
  have h1:X=0:=by rw [HRX.out.1,if_neg (by decide),if_neg hlim]
  rw [HRX.out.2,h1,if_pos rfl]
  exact snr_out (s:=lkS M lim) (X:=lkX A c) (vs:=[.int .i64 0,.int .i64 0,.slice A M.cs.length c,.int .i64 M.ph,.int .i64 M.hv,.int .i64 M.tr,.int .i64 M.wt,.int .i64 0,.int .i64 0,.int .i64 0,.int .i64 0,.slice none 0 0,.int .i64 0,.slice none 0 0,.slice none 0 0,.int .i64 0,.slice none 0 0,.slice none 0 0,.slice none 0 0,.int .i64 0,.slice none 0 0,.slice none 0 0,.slice none 0 0,.slice none 0 0,.int .i64 lim,.slice none 0 0]) (by rw [HPP.out];exact nLR _) (HB.out.trans (k.mono HB.out.size)) (lkS_nw HL.out.1) (SeR.newlock (HL.out.2.up k)) 0)
 obtain ⟨k0,k1,k2,k3,k4⟩:=HK.out.k
 have kl:=HK.out.lt
 have hqr:¬q=r:=by have:=HRQ.out;omega
 have hrq:¬r=q:=fun e=>hqr e.symm
 clear HRX HL HK HB hlim HCA
 go_upto_region 6 with (fail)
 have hd:=(Below.refl w3.heap.size w3).drew
 have HFD:=Lh hd
 replace HKR:=Lh (HKR.out.up hd)
 replace HR:=Lh (HR.out.up hd)
 clear k0 k1 k2 k3 k4 kl
 refine wp_region_noPanic ?_
 refine wp_region_held_drew (S:=fun W=>W.rangeAt q 0 [.slice A M.cs.length c,.int .i64 M.ph,.int .i64 M.hv,.int .i64 M.tr,.int .i64 M.wt]) (by kernel_rfl) ?hS0 (fun hHeld=>?_)
 case hS0=>exact HKR.out.range
 generalize w3.drew=w4 at*
 refine wpAnyH_take (i:=0) (oi:=?o0x0) (v:=.agg #[.slice A M.cs.length c,.int .i64 M.ph,.int .i64 M.hv,.int .i64 M.tr,.int .i64 M.wt]) ?hi0x0 (by kernel_rfl) (by kernel_rfl) (by kernel_rfl) (fun _ _ _ h=>h) ?hy0x0 hHeld ?_
 case hi0x0=>simp only [List.getElem?_toArray,List.getElem?_cons_zero];exact rfl
 case hy0x0=>exact yieldsIf_load_mid rfl 45 _ rfl q 0 rfl [.slice A M.cs.length c,.int .i64 M.ph,.int .i64 M.hv,.int .i64 M.tr,.int .i64 M.wt] _ (fun w hSw=>hSw) (Tryz.underlying45) rfl info_lk15
 try simp only [Act.put,sIA,sIB,sIC]
 refine wpAnyH_take (i:=2) (oi:=?o2x1) (v:=?v2x1) ?hi2x1 (by kernel_rfl) (by kernel_rfl) (by kernel_rfl) (fun _ _ _ h=>h) (Or.inl ⟨?hw2x1,?hy2x1⟩) hHeld ?_
 case hi2x1=>simp only [List.getElem?_toArray,List.getElem?_cons_succ,List.getElem?_cons_zero];exact rfl
 case hw2x1=>rfl
 case hy2x1=>intro w hSw;clear hSw;go_simp;all_goals (with_reducible rfl)
 try simp only [Act.put,sIA,sIB,sIC]
 refine wpAnyH_ready (rs:=[1]) (by kernel_rfl) (by simp) ?_
 refine AllReadyH.cons (o:=?o1x2) ?ho1x2 ?st1x2 AllReadyH.nil
 case ho1x2=>simp only [List.getElem?_toArray,List.getElem?_cons_succ,List.getElem?_cons_zero];exact rfl
 case st1x2=>
  intro K hK
  go_simp
  go_at_call 26
  (with_reducible refine (nnew_any _).mono ?_)
  rintro e w5 ⟨rfl,hb⟩
  replace HKR:=Lh (HKR.out.up hb)
  replace HR:=Lh (HR.out.up hb)
  replace HFD:=Lh (HF.out w5 (hd.trans (hb.mono hd.size)))
  clear hb hd HF
  have HS5:=Lh (show (stN15 w5 r 0 [.int .i64 0,.int .i64 0,.slice A M.cs.length c,.int .i64 M.ph,.int .i64 M.hv,.int .i64 M.tr,.int .i64 M.wt,.int .i64 0,.int .i64 0,.int .i64 0,.int .i64 0,.slice none 0 0,.int .i64 0,.slice none 0 0,.slice none 0 0,.int .i64 0,.slice none 0 0,.slice none 0 0,.slice none 0 0,.int .i64 0,.slice none 0 0,.slice none 0 0,.slice none 0 0,.slice none 0 0,.int .i64 lim,.slice none 0 0]).rangeAt q 0 [.slice A M.cs.length c,.int .i64 M.ph,.int .i64 M.hv,.int .i64 M.tr,.int .i64 M.wt] from (HKR.out.stNo (vs:=[.int .i64 0,.int .i64 0,.slice A M.cs.length c,.int .i64 M.ph,.int .i64 M.hv,.int .i64 M.tr,.int .i64 M.wt,.int .i64 0,.int .i64 0,.int .i64 0,.int .i64 0,.slice none 0 0,.int .i64 0,.slice none 0 0,.slice none 0 0,.int .i64 0,.slice none 0 0,.slice none 0 0,.slice none 0 0,.int .i64 0,.slice none 0 0,.slice none 0 0,.slice none 0 0,.slice none 0 0,.int .i64 lim,.slice none 0 0]) hrq 0).range)
  refine hK.out _ _ ?hS1x2 (fun hHeld=>?_)
  case hS1x2=>exact HKR.out.range
  clear hK K
  try simp only [Act.put,sIA,sIB,sIC]
  refine wpAnyH_take (i:=3) (oi:=?o3x3) (v:=?v3x3) ?hi3x3 (by kernel_rfl) (by kernel_rfl) (by kernel_rfl) (fun _ _ _ h=>h) (Or.inl ⟨?hw3x3,?hy3x3⟩) hHeld ?_
  case hi3x3=>simp only [List.getElem?_toArray,List.getElem?_cons_succ,List.getElem?_cons_zero];exact rfl
  case hw3x3=>rfl
  case hy3x3=>intro w hSw;clear hSw;go_simp;all_goals (with_reducible rfl)
  try simp only [Act.put,sIA,sIB,sIC]
  refine wpAnyH_ready (rs:=[4]) (by kernel_rfl) (by simp) ?_
  refine AllReadyH.cons (o:=?o4x4) ?ho4x4 ?st4x4 AllReadyH.nil
  case ho4x4=>simp only [List.getElem?_toArray,List.getElem?_cons_succ,List.getElem?_cons_zero];exact rfl
  case st4x4=>
   intro K hK
   refine wp_store_st 53 _ _ rfl r [.int .i64 0,.int .i64 0,.slice none 0 0,.int .i64 0,.int .i64 0,.int .i64 0,.int .i64 0,.int .i64 0,.int .i64 0,.int .i64 0,.int .i64 0,.slice none 0 0,.int .i64 0,.slice none 0 0,.slice none 0 0,.int .i64 0,.slice none 0 0,.slice none 0 0,.slice none 0 0,.int .i64 0,.slice none 0 0,.slice none 0 0,.slice none 0 0,.slice none 0 0,.int .i64 0,.slice none 0 0] [.int .i64 0,.int .i64 0,.slice A M.cs.length c,.int .i64 M.ph,.int .i64 M.hv,.int .i64 M.tr,.int .i64 M.wt,.int .i64 0,.int .i64 0,.int .i64 0,.int .i64 0,.slice none 0 0,.int .i64 0,.slice none 0 0,.slice none 0 0,.int .i64 0,.slice none 0 0,.slice none 0 0,.slice none 0 0,.int .i64 0,.slice none 0 0,.slice none 0 0,.slice none 0 0,.slice none 0 0,.int .i64 lim,.slice none 0 0] rfl rfl HR.out rfl info_se (by kernel_rfl) ?_
   refine hK.out _ _ ?hS4x4 (fun hHeld=>?_)
   case hS4x4=>exact HS5.out
   clear hK K
   try simp only [Act.put,sIA,sIB,sIC]
   clear hHeld
   have hHeld:=HS5.out
   have HRB:=Lh (HR.out.stN (vs:=[.int .i64 0,.int .i64 0,.slice A M.cs.length c,.int .i64 M.ph,.int .i64 M.hv,.int .i64 M.tr,.int .i64 M.wt,.int .i64 0,.int .i64 0,.int .i64 0,.int .i64 0,.slice none 0 0,.int .i64 0,.slice none 0 0,.slice none 0 0,.int .i64 0,.slice none 0 0,.slice none 0 0,.slice none 0 0,.int .i64 0,.slice none 0 0,.slice none 0 0,.slice none 0 0,.slice none 0 0,.int .i64 lim,.slice none 0 0]) rfl)
   clear HR HKR HS5
   generalize stN15 w5 r 0 [.int .i64 0,.int .i64 0,.slice A M.cs.length c,.int .i64 M.ph,.int .i64 M.hv,.int .i64 M.tr,.int .i64 M.wt,.int .i64 0,.int .i64 0,.int .i64 0,.int .i64 0,.slice none 0 0,.int .i64 0,.slice none 0 0,.slice none 0 0,.int .i64 0,.slice none 0 0,.slice none 0 0,.slice none 0 0,.int .i64 0,.slice none 0 0,.slice none 0 0,.slice none 0 0,.slice none 0 0,.int .i64 lim,.slice none 0 0]=wf at*
   refine wpAnyH_take (i:=5) (oi:=?o5x5) (v:=?v5x5) ?hi5x5 (by kernel_rfl) (by kernel_rfl) (by kernel_rfl) (fun _ _ _ h=>h) (Or.inl ⟨?hw5x5,?hy5x5⟩) hHeld ?_
   case hi5x5=>simp only [List.getElem?_toArray,List.getElem?_cons_succ,List.getElem?_cons_zero];exact rfl
   case hw5x5=>rfl
   case hy5x5=>intro w hSw;clear hSw;go_simp;all_goals (with_reducible rfl)
   try simp only [Act.put,sIA,sIB,sIC]
   refine wpAnyH_done (by kernel_rfl) ?_ _
   refine NoPanic.normal ?_
   go_wp2
   have hlv:(loadVar 53 ⟨r,0,none⟩).run Tryz.prog wf=.ok (.agg #[.int .i64 0,.int .i64 0,.slice A M.cs.length c,.int .i64 M.ph,.int .i64 M.hv,.int .i64 M.tr,.int .i64 M.wt,.int .i64 0,.int .i64 0,.int .i64 0,.int .i64 0,.slice none 0 0,.int .i64 0,.slice none 0 0,.slice none 0 0,.int .i64 0,.slice none 0 0,.slice none 0 0,.slice none 0 0,.int .i64 0,.slice none 0 0,.slice none 0 0,.slice none 0 0,.slice none 0 0,.int .i64 lim,.slice none 0 0]) wf:=run_loadVar_mid wf r 0 53 [.int .i64 0,.int .i64 0,.slice A M.cs.length c,.int .i64 M.ph,.int .i64 M.hv,.int .i64 M.tr,.int .i64 M.wt,.int .i64 0,.int .i64 0,.int .i64 0,.int .i64 0,.slice none 0 0,.int .i64 0,.slice none 0 0,.slice none 0 0,.int .i64 0,.slice none 0 0,.slice none 0 0,.slice none 0 0,.int .i64 0,.slice none 0 0,.slice none 0 0,.slice none 0 0,.slice none 0 0,.int .i64 lim,.slice none 0 0] _ HRB.out.range (Tryz.underlying53) rfl info_se
   exact bodyPost_ret (v:=.tuple #[.agg #[.int .i64 0,.int .i64 0,.slice A M.cs.length c,.int .i64 M.ph,.int .i64 M.hv,.int .i64 M.tr,.int .i64 M.wt,.int .i64 0,.int .i64 0,.int .i64 0,.int .i64 0,.slice none 0 0,.int .i64 0,.slice none 0 0,.slice none 0 0,.int .i64 0,.slice none 0 0,.slice none 0 0,.slice none 0 0,.int .i64 0,.slice none 0 0,.slice none 0 0,.slice none 0 0,.slice none 0 0,.int .i64 lim,.slice none 0 0],.int .i64 0]) (by simp only [results,Tryz.results9];simp [Sem.run_bind,asAddr,hlv,Act.put]) rfl HFD.out
theorem unew15_any (A0:Option Addr) (c0:Nat) (cs:List Int) (lim:Int) (w:World) (hf:Fl w w.heap.size (.slice A0 cs.length c0) cs):Calls Tryz.prog 9 #[.slice A0 cs.length c0,.int .i64 lim] w (SNr w (nwS15 cs lim) (nwE15 cs lim)):=by
 by_cases hE:nwE13 cs=0
 ·by_cases hl:lim<1\/8<lim
  ·exact unew15_l A0 c0 cs lim w hf ⟨hE,hl⟩
  ·exact unew15_k A0 c0 cs lim w hf ⟨hE,hl⟩
 ·exact unew15_e A0 c0 cs lim w hf hE
end Go.Proofs.YtkecnihgjepfeaaGreat
