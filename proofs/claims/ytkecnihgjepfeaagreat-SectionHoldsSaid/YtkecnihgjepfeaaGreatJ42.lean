/- What is proved here: parts of the proof: Uw. -/
import Derived.Test.YtkecnihgjepfeaaGreatJ41
namespace Go.Proofs.YtkecnihgjepfeaaGreat
open Go.RowKit
set_option linter.unusedVariables false
set_option linter.unusedSimpArgs false
set_option maxHeartbeats 8000000
set_option maxRecDepth 20000
theorem ustep_any {K:Int} {fm:Nat} {s s2:Se} {X:Sex} {a a2:Ar} {Y:Ax} {t n:Int} (w:World) (har:AR w w.heap.size a Y) (hse:SeR w w.heap.size s X) (hw:a.Few) (hs:SmC s) (hph:s.ph=K) (hK:0<=K/\K<=9) (hfm:∀ p,(phL p).lookup K=some (.func (.func fm) #[.pointer (some ⟨p,0,none⟩)] #[]))
  (hcf:∀ (args:Array Value) (W:World),(callFunc fm args).run Tryz.prog W=.ok (.enter fm args) W) (hm:∀ (wr:World) p X' Y' W,UrS wr p s X' a Y' t n W->Calls Tryz.prog fm #[.pointer (some ⟨p,0,none⟩)] W (UrP wr.heap.size p t n s2 a2 0 W)):Calls Tryz.prog 13 #[av a Y,sev s X,.int .i64 t,.int .i64 n] w (SE15n w a2 s2 0):=by
 obtain ⟨q4,hq4⟩:∃ x,x=w.heap.size:=⟨_,rfl⟩
 obtain ⟨q5,hq5⟩:∃ x,x=w.heap.size+1:=⟨_,rfl⟩
 obtain ⟨q8,hq8⟩:∃ x,x=w.heap.size+2:=⟨_,rfl⟩
 obtain ⟨q9,hq9⟩:∃ x,x=w.heap.size+3:=⟨_,rfl⟩
 have b1:=(Below.refl w.heap.size w).alloc (nLR _) (.cells #[.slice Y.A a.sl.length Y.c,.slice Y.A2 a.st.length Y.c2,.int .i64 a.ow,.int .i64 a.cap,.slice Y.A3 a.dl.length Y.c3,.int .i64 a.dir.vn,.slice Y.D.A a.dir.l.length Y.D.c,.slice Y.D.A2 a.dir.F.length Y.D.c2,.int .i64 a.ep,.int .i64 a.ck,.int .i64 a.ni] 36)
 have b2:=b1.alloc (by simp) (.cells #[.int .i64 s.ph,.int .i64 s.at_,.slice X.Al s.lk.cs.length X.cl,.int .i64 s.lk.ph,.int .i64 s.lk.hv,.int .i64 s.lk.tr,.int .i64 s.lk.wt,.int .i64 s.sn.ph,.int .i64 s.sn.ep,.int .i64 s.sn.ck,.int .i64 s.sn.sp,.slice X.A s.sh.length X.c,.int .i64 s.dc,.slice X.Ad s.dl.length X.cd,.slice X.At s.st.length X.ct,.int .i64 s.dir.vn,.slice X.D.A s.dir.l.length X.D.c,.slice X.D.A2 s.dir.F.length X.D.c2,.slice X.o.A s.o.sh.length X.o.c,.int .i64 s.o.dc,.slice X.o.Ad s.o.dl.length X.o.cd,.slice X.o.Ao s.o.od.length X.o.co,.slice X.o.Ac s.o.ca.length X.o.cc,.slice X.o.Ae s.o.ed.length X.o.ce,.int .i64 s.lim,.slice X.Ac s.ca.length X.cc] 53)
 have b3:=b2.alloc (by simp <;> omega) (.cells #[.slice none 0 0,.slice none 0 0,.int .i64 0,.int .i64 0,.slice none 0 0,.int .i64 0,.slice none 0 0,.slice none 0 0,.int .i64 0,.int .i64 0,.int .i64 0] 36)
 have HBW:=Lh (b3.alloc (by simp <;> omega) (.cells #[.int .i64 0,.int .i64 0,.slice none 0 0,.int .i64 0,.int .i64 0,.int .i64 0,.int .i64 0,.int .i64 0,.int .i64 0,.int .i64 0,.int .i64 0,.slice none 0 0,.int .i64 0,.slice none 0 0,.slice none 0 0,.int .i64 0,.slice none 0 0,.slice none 0 0,.slice none 0 0,.int .i64 0,.slice none 0 0,.slice none 0 0,.slice none 0 0,.slice none 0 0,.int .i64 0,.slice none 0 0] 53))
 have e1:(w.alloc (.cells #[.slice Y.A a.sl.length Y.c,.slice Y.A2 a.st.length Y.c2,.int .i64 a.ow,.int .i64 a.cap,.slice Y.A3 a.dl.length Y.c3,.int .i64 a.dir.vn,.slice Y.D.A a.dir.l.length Y.D.c,.slice Y.D.A2 a.dir.F.length Y.D.c2,.int .i64 a.ep,.int .i64 a.ck,.int .i64 a.ni] 36)).heap.size=q5:=by rw [hq5];simp
 have e2:((w.alloc (.cells #[.slice Y.A a.sl.length Y.c,.slice Y.A2 a.st.length Y.c2,.int .i64 a.ow,.int .i64 a.cap,.slice Y.A3 a.dl.length Y.c3,.int .i64 a.dir.vn,.slice Y.D.A a.dir.l.length Y.D.c,.slice Y.D.A2 a.dir.F.length Y.D.c2,.int .i64 a.ep,.int .i64 a.ck,.int .i64 a.ni] 36)).alloc (.cells #[.int .i64 s.ph,.int .i64 s.at_,.slice X.Al s.lk.cs.length X.cl,.int .i64 s.lk.ph,.int .i64 s.lk.hv,.int .i64 s.lk.tr,.int .i64 s.lk.wt,.int .i64 s.sn.ph,.int .i64 s.sn.ep,.int .i64 s.sn.ck,.int .i64 s.sn.sp,.slice X.A s.sh.length X.c,.int .i64 s.dc,.slice X.Ad s.dl.length X.cd,.slice X.At s.st.length X.ct,.int .i64 s.dir.vn,.slice X.D.A s.dir.l.length X.D.c,.slice X.D.A2 s.dir.F.length X.D.c2,.slice X.o.A s.o.sh.length X.o.c,.int .i64 s.o.dc,.slice X.o.Ad s.o.dl.length X.o.cd,.slice X.o.Ao s.o.od.length X.o.co,.slice X.o.Ac s.o.ca.length X.o.cc,.slice X.o.Ae s.o.ed.length X.o.ce,.int .i64 s.lim,.slice X.Ac s.ca.length X.cc] 53)).heap.size=q8:=by rw [hq8];simp
 have e3:(((w.alloc (.cells #[.slice Y.A a.sl.length Y.c,.slice Y.A2 a.st.length Y.c2,.int .i64 a.ow,.int .i64 a.cap,.slice Y.A3 a.dl.length Y.c3,.int .i64 a.dir.vn,.slice Y.D.A a.dir.l.length Y.D.c,.slice Y.D.A2 a.dir.F.length Y.D.c2,.int .i64 a.ep,.int .i64 a.ck,.int .i64 a.ni] 36)).alloc (.cells #[.int .i64 s.ph,.int .i64 s.at_,.slice X.Al s.lk.cs.length X.cl,.int .i64 s.lk.ph,.int .i64 s.lk.hv,.int .i64 s.lk.tr,.int .i64 s.lk.wt,.int .i64 s.sn.ph,.int .i64 s.sn.ep,.int .i64 s.sn.ck,.int .i64 s.sn.sp,.slice X.A s.sh.length X.c,.int .i64 s.dc,.slice X.Ad s.dl.length X.cd,.slice X.At s.st.length X.ct,.int .i64 s.dir.vn,.slice X.D.A s.dir.l.length X.D.c,.slice X.D.A2 s.dir.F.length X.D.c2,.slice X.o.A s.o.sh.length X.o.c,.int .i64 s.o.dc,.slice X.o.Ad s.o.dl.length X.o.cd,.slice X.o.Ao s.o.od.length X.o.co,.slice X.o.Ac s.o.ca.length X.o.cc,.slice X.o.Ae s.o.ed.length X.o.ce,.int .i64 s.lim,.slice X.Ac s.ca.length X.cc] 53)).alloc (.cells #[.slice none 0 0,.slice none 0 0,.int .i64 0,.int .i64 0,.slice none 0 0,.int .i64 0,.slice none 0 0,.slice none 0 0,.int .i64 0,.int .i64 0,.int .i64 0] 36)).heap.size=q9:=by rw [hq9];simp
 have e4:((((w.alloc (.cells #[.slice Y.A a.sl.length Y.c,.slice Y.A2 a.st.length Y.c2,.int .i64 a.ow,.int .i64 a.cap,.slice Y.A3 a.dl.length Y.c3,.int .i64 a.dir.vn,.slice Y.D.A a.dir.l.length Y.D.c,.slice Y.D.A2 a.dir.F.length Y.D.c2,.int .i64 a.ep,.int .i64 a.ck,.int .i64 a.ni] 36)).alloc (.cells #[.int .i64 s.ph,.int .i64 s.at_,.slice X.Al s.lk.cs.length X.cl,.int .i64 s.lk.ph,.int .i64 s.lk.hv,.int .i64 s.lk.tr,.int .i64 s.lk.wt,.int .i64 s.sn.ph,.int .i64 s.sn.ep,.int .i64 s.sn.ck,.int .i64 s.sn.sp,.slice X.A s.sh.length X.c,.int .i64 s.dc,.slice X.Ad s.dl.length X.cd,.slice X.At s.st.length X.ct,.int .i64 s.dir.vn,.slice X.D.A s.dir.l.length X.D.c,.slice X.D.A2 s.dir.F.length X.D.c2,.slice X.o.A s.o.sh.length X.o.c,.int .i64 s.o.dc,.slice X.o.Ad s.o.dl.length X.o.cd,.slice X.o.Ao s.o.od.length X.o.co,.slice X.o.Ac s.o.ca.length X.o.cc,.slice X.o.Ae s.o.ed.length X.o.ce,.int .i64 s.lim,.slice X.Ac s.ca.length X.cc] 53)).alloc (.cells #[.slice none 0 0,.slice none 0 0,.int .i64 0,.int .i64 0,.slice none 0 0,.int .i64 0,.slice none 0 0,.slice none 0 0,.int .i64 0,.int .i64 0,.int .i64 0] 36)).alloc (.cells #[.int .i64 0,.int .i64 0,.slice none 0 0,.int .i64 0,.int .i64 0,.int .i64 0,.int .i64 0,.int .i64 0,.int .i64 0,.int .i64 0,.int .i64 0,.slice none 0 0,.int .i64 0,.slice none 0 0,.slice none 0 0,.int .i64 0,.slice none 0 0,.slice none 0 0,.slice none 0 0,.int .i64 0,.slice none 0 0,.slice none 0 0,.slice none 0 0,.slice none 0 0,.int .i64 0,.slice none 0 0] 53)).heap.size=q9+1:=by rw [hq9];simp
 have u1:=fun (W:World) (o:Obj)=>(Below.refl W.heap.size W).alloc (nLR _) o
 have HR4:=Lh (show Rb ((((w.alloc (.cells #[.slice Y.A a.sl.length Y.c,.slice Y.A2 a.st.length Y.c2,.int .i64 a.ow,.int .i64 a.cap,.slice Y.A3 a.dl.length Y.c3,.int .i64 a.dir.vn,.slice Y.D.A a.dir.l.length Y.D.c,.slice Y.D.A2 a.dir.F.length Y.D.c2,.int .i64 a.ep,.int .i64 a.ck,.int .i64 a.ni] 36)).alloc (.cells #[.int .i64 s.ph,.int .i64 s.at_,.slice X.Al s.lk.cs.length X.cl,.int .i64 s.lk.ph,.int .i64 s.lk.hv,.int .i64 s.lk.tr,.int .i64 s.lk.wt,.int .i64 s.sn.ph,.int .i64 s.sn.ep,.int .i64 s.sn.ck,.int .i64 s.sn.sp,.slice X.A s.sh.length X.c,.int .i64 s.dc,.slice X.Ad s.dl.length X.cd,.slice X.At s.st.length X.ct,.int .i64 s.dir.vn,.slice X.D.A s.dir.l.length X.D.c,.slice X.D.A2 s.dir.F.length X.D.c2,.slice X.o.A s.o.sh.length X.o.c,.int .i64 s.o.dc,.slice X.o.Ad s.o.dl.length X.o.cd,.slice X.o.Ao s.o.od.length X.o.co,.slice X.o.Ac s.o.ca.length X.o.cc,.slice X.o.Ae s.o.ed.length X.o.ce,.int .i64 s.lim,.slice X.Ac s.ca.length X.cc] 53)).alloc (.cells #[.slice none 0 0,.slice none 0 0,.int .i64 0,.int .i64 0,.slice none 0 0,.int .i64 0,.slice none 0 0,.slice none 0 0,.int .i64 0,.int .i64 0,.int .i64 0] 36)).alloc (.cells #[.int .i64 0,.int .i64 0,.slice none 0 0,.int .i64 0,.int .i64 0,.int .i64 0,.int .i64 0,.int .i64 0,.int .i64 0,.int .i64 0,.int .i64 0,.slice none 0 0,.int .i64 0,.slice none 0 0,.slice none 0 0,.int .i64 0,.slice none 0 0,.slice none 0 0,.slice none 0 0,.int .i64 0,.slice none 0 0,.slice none 0 0,.slice none 0 0,.slice none 0 0,.int .i64 0,.slice none 0 0] 53)) q4 [.slice Y.A a.sl.length Y.c,.slice Y.A2 a.st.length Y.c2,.int .i64 a.ow,.int .i64 a.cap,.slice Y.A3 a.dl.length Y.c3,.int .i64 a.dir.vn,.slice Y.D.A a.dir.l.length Y.D.c,.slice Y.D.A2 a.dir.F.length Y.D.c2,.int .i64 a.ep,.int .i64 a.ck,.int .i64 a.ni] from by rw [hq4];exact (((Rb.start w [.slice Y.A a.sl.length Y.c,.slice Y.A2 a.st.length Y.c2,.int .i64 a.ow,.int .i64 a.cap,.slice Y.A3 a.dl.length Y.c3,.int .i64 a.dir.vn,.slice Y.D.A a.dir.l.length Y.D.c,.slice Y.D.A2 a.dir.F.length Y.D.c2,.int .i64 a.ep,.int .i64 a.ck,.int .i64 a.ni] 36).up (u1 _ _)).up (u1 _ _)).up (u1 _ _))
 have HR5:=Lh (show Rb ((((w.alloc (.cells #[.slice Y.A a.sl.length Y.c,.slice Y.A2 a.st.length Y.c2,.int .i64 a.ow,.int .i64 a.cap,.slice Y.A3 a.dl.length Y.c3,.int .i64 a.dir.vn,.slice Y.D.A a.dir.l.length Y.D.c,.slice Y.D.A2 a.dir.F.length Y.D.c2,.int .i64 a.ep,.int .i64 a.ck,.int .i64 a.ni] 36)).alloc (.cells #[.int .i64 s.ph,.int .i64 s.at_,.slice X.Al s.lk.cs.length X.cl,.int .i64 s.lk.ph,.int .i64 s.lk.hv,.int .i64 s.lk.tr,.int .i64 s.lk.wt,.int .i64 s.sn.ph,.int .i64 s.sn.ep,.int .i64 s.sn.ck,.int .i64 s.sn.sp,.slice X.A s.sh.length X.c,.int .i64 s.dc,.slice X.Ad s.dl.length X.cd,.slice X.At s.st.length X.ct,.int .i64 s.dir.vn,.slice X.D.A s.dir.l.length X.D.c,.slice X.D.A2 s.dir.F.length X.D.c2,.slice X.o.A s.o.sh.length X.o.c,.int .i64 s.o.dc,.slice X.o.Ad s.o.dl.length X.o.cd,.slice X.o.Ao s.o.od.length X.o.co,.slice X.o.Ac s.o.ca.length X.o.cc,.slice X.o.Ae s.o.ed.length X.o.ce,.int .i64 s.lim,.slice X.Ac s.ca.length X.cc] 53)).alloc (.cells #[.slice none 0 0,.slice none 0 0,.int .i64 0,.int .i64 0,.slice none 0 0,.int .i64 0,.slice none 0 0,.slice none 0 0,.int .i64 0,.int .i64 0,.int .i64 0] 36)).alloc (.cells #[.int .i64 0,.int .i64 0,.slice none 0 0,.int .i64 0,.int .i64 0,.int .i64 0,.int .i64 0,.int .i64 0,.int .i64 0,.int .i64 0,.int .i64 0,.slice none 0 0,.int .i64 0,.slice none 0 0,.slice none 0 0,.int .i64 0,.slice none 0 0,.slice none 0 0,.slice none 0 0,.int .i64 0,.slice none 0 0,.slice none 0 0,.slice none 0 0,.slice none 0 0,.int .i64 0,.slice none 0 0] 53)) q5 [.int .i64 s.ph,.int .i64 s.at_,.slice X.Al s.lk.cs.length X.cl,.int .i64 s.lk.ph,.int .i64 s.lk.hv,.int .i64 s.lk.tr,.int .i64 s.lk.wt,.int .i64 s.sn.ph,.int .i64 s.sn.ep,.int .i64 s.sn.ck,.int .i64 s.sn.sp,.slice X.A s.sh.length X.c,.int .i64 s.dc,.slice X.Ad s.dl.length X.cd,.slice X.At s.st.length X.ct,.int .i64 s.dir.vn,.slice X.D.A s.dir.l.length X.D.c,.slice X.D.A2 s.dir.F.length X.D.c2,.slice X.o.A s.o.sh.length X.o.c,.int .i64 s.o.dc,.slice X.o.Ad s.o.dl.length X.o.cd,.slice X.o.Ao s.o.od.length X.o.co,.slice X.o.Ac s.o.ca.length X.o.cc,.slice X.o.Ae s.o.ed.length X.o.ce,.int .i64 s.lim,.slice X.Ac s.ca.length X.cc] from by rw [<-e1];exact ((Rb.start _ [.int .i64 s.ph,.int .i64 s.at_,.slice X.Al s.lk.cs.length X.cl,.int .i64 s.lk.ph,.int .i64 s.lk.hv,.int .i64 s.lk.tr,.int .i64 s.lk.wt,.int .i64 s.sn.ph,.int .i64 s.sn.ep,.int .i64 s.sn.ck,.int .i64 s.sn.sp,.slice X.A s.sh.length X.c,.int .i64 s.dc,.slice X.Ad s.dl.length X.cd,.slice X.At s.st.length X.ct,.int .i64 s.dir.vn,.slice X.D.A s.dir.l.length X.D.c,.slice X.D.A2 s.dir.F.length X.D.c2,.slice X.o.A s.o.sh.length X.o.c,.int .i64 s.o.dc,.slice X.o.Ad s.o.dl.length X.o.cd,.slice X.o.Ao s.o.od.length X.o.co,.slice X.o.Ac s.o.ca.length X.o.cc,.slice X.o.Ae s.o.ed.length X.o.ce,.int .i64 s.lim,.slice X.Ac s.ca.length X.cc] 53).up (u1 _ _)).up (u1 _ _))
 have HR8:=Lh (show Rb ((((w.alloc (.cells #[.slice Y.A a.sl.length Y.c,.slice Y.A2 a.st.length Y.c2,.int .i64 a.ow,.int .i64 a.cap,.slice Y.A3 a.dl.length Y.c3,.int .i64 a.dir.vn,.slice Y.D.A a.dir.l.length Y.D.c,.slice Y.D.A2 a.dir.F.length Y.D.c2,.int .i64 a.ep,.int .i64 a.ck,.int .i64 a.ni] 36)).alloc (.cells #[.int .i64 s.ph,.int .i64 s.at_,.slice X.Al s.lk.cs.length X.cl,.int .i64 s.lk.ph,.int .i64 s.lk.hv,.int .i64 s.lk.tr,.int .i64 s.lk.wt,.int .i64 s.sn.ph,.int .i64 s.sn.ep,.int .i64 s.sn.ck,.int .i64 s.sn.sp,.slice X.A s.sh.length X.c,.int .i64 s.dc,.slice X.Ad s.dl.length X.cd,.slice X.At s.st.length X.ct,.int .i64 s.dir.vn,.slice X.D.A s.dir.l.length X.D.c,.slice X.D.A2 s.dir.F.length X.D.c2,.slice X.o.A s.o.sh.length X.o.c,.int .i64 s.o.dc,.slice X.o.Ad s.o.dl.length X.o.cd,.slice X.o.Ao s.o.od.length X.o.co,.slice X.o.Ac s.o.ca.length X.o.cc,.slice X.o.Ae s.o.ed.length X.o.ce,.int .i64 s.lim,.slice X.Ac s.ca.length X.cc] 53)).alloc (.cells #[.slice none 0 0,.slice none 0 0,.int .i64 0,.int .i64 0,.slice none 0 0,.int .i64 0,.slice none 0 0,.slice none 0 0,.int .i64 0,.int .i64 0,.int .i64 0] 36)).alloc (.cells #[.int .i64 0,.int .i64 0,.slice none 0 0,.int .i64 0,.int .i64 0,.int .i64 0,.int .i64 0,.int .i64 0,.int .i64 0,.int .i64 0,.int .i64 0,.slice none 0 0,.int .i64 0,.slice none 0 0,.slice none 0 0,.int .i64 0,.slice none 0 0,.slice none 0 0,.slice none 0 0,.int .i64 0,.slice none 0 0,.slice none 0 0,.slice none 0 0,.slice none 0 0,.int .i64 0,.slice none 0 0] 53)) q8 [.slice none 0 0,.slice none 0 0,.int .i64 0,.int .i64 0,.slice none 0 0,.int .i64 0,.slice none 0 0,.slice none 0 0,.int .i64 0,.int .i64 0,.int .i64 0] from by rw [<-e2];exact (Rb.start _ [.slice none 0 0,.slice none 0 0,.int .i64 0,.int .i64 0,.slice none 0 0,.int .i64 0,.slice none 0 0,.slice none 0 0,.int .i64 0,.int .i64 0,.int .i64 0] 36).up (u1 _ _))
 have HR9:=Lh (show Rb ((((w.alloc (.cells #[.slice Y.A a.sl.length Y.c,.slice Y.A2 a.st.length Y.c2,.int .i64 a.ow,.int .i64 a.cap,.slice Y.A3 a.dl.length Y.c3,.int .i64 a.dir.vn,.slice Y.D.A a.dir.l.length Y.D.c,.slice Y.D.A2 a.dir.F.length Y.D.c2,.int .i64 a.ep,.int .i64 a.ck,.int .i64 a.ni] 36)).alloc (.cells #[.int .i64 s.ph,.int .i64 s.at_,.slice X.Al s.lk.cs.length X.cl,.int .i64 s.lk.ph,.int .i64 s.lk.hv,.int .i64 s.lk.tr,.int .i64 s.lk.wt,.int .i64 s.sn.ph,.int .i64 s.sn.ep,.int .i64 s.sn.ck,.int .i64 s.sn.sp,.slice X.A s.sh.length X.c,.int .i64 s.dc,.slice X.Ad s.dl.length X.cd,.slice X.At s.st.length X.ct,.int .i64 s.dir.vn,.slice X.D.A s.dir.l.length X.D.c,.slice X.D.A2 s.dir.F.length X.D.c2,.slice X.o.A s.o.sh.length X.o.c,.int .i64 s.o.dc,.slice X.o.Ad s.o.dl.length X.o.cd,.slice X.o.Ao s.o.od.length X.o.co,.slice X.o.Ac s.o.ca.length X.o.cc,.slice X.o.Ae s.o.ed.length X.o.ce,.int .i64 s.lim,.slice X.Ac s.ca.length X.cc] 53)).alloc (.cells #[.slice none 0 0,.slice none 0 0,.int .i64 0,.int .i64 0,.slice none 0 0,.int .i64 0,.slice none 0 0,.slice none 0 0,.int .i64 0,.int .i64 0,.int .i64 0] 36)).alloc (.cells #[.int .i64 0,.int .i64 0,.slice none 0 0,.int .i64 0,.int .i64 0,.int .i64 0,.int .i64 0,.int .i64 0,.int .i64 0,.int .i64 0,.int .i64 0,.slice none 0 0,.int .i64 0,.slice none 0 0,.slice none 0 0,.int .i64 0,.slice none 0 0,.slice none 0 0,.slice none 0 0,.int .i64 0,.slice none 0 0,.slice none 0 0,.slice none 0 0,.slice none 0 0,.int .i64 0,.slice none 0 0] 53)) q9 [.int .i64 0,.int .i64 0,.slice none 0 0,.int .i64 0,.int .i64 0,.int .i64 0,.int .i64 0,.int .i64 0,.int .i64 0,.int .i64 0,.int .i64 0,.slice none 0 0,.int .i64 0,.slice none 0 0,.slice none 0 0,.int .i64 0,.slice none 0 0,.slice none 0 0,.slice none 0 0,.int .i64 0,.slice none 0 0,.slice none 0 0,.slice none 0 0,.slice none 0 0,.int .i64 0,.slice none 0 0] from by rw [<-e3];exact Rb.start _ [.int .i64 0,.int .i64 0,.slice none 0 0,.int .i64 0,.int .i64 0,.int .i64 0,.int .i64 0,.int .i64 0,.int .i64 0,.int .i64 0,.int .i64 0,.slice none 0 0,.int .i64 0,.slice none 0 0,.slice none 0 0,.int .i64 0,.slice none 0 0,.slice none 0 0,.slice none 0 0,.int .i64 0,.slice none 0 0,.slice none 0 0,.slice none 0 0,.slice none 0 0,.int .i64 0,.slice none 0 0] 53)
 have HCS0:=Lh (fun W (k:Below w.heap.size w W)=>csection_any s X W ((hse.below k).more k.size) hs)
 have HCA0:=Lh (fun W (k:Below w.heap.size w W)=>aclone_any a Y W ((har.below k).more k.size) hw)
 have HM:=Lh hm
 have HFM:=Lh hfm
 have HQ:=Lh (show w.heap.size<=q8/\q8<q9/\w.heap.size<=q9 from by omega)
 have HPH:=Lh hph
 have HCF:=Lh hcf
 have HKK:=Lh hK
 have HQ4:=Lh hq4
 clear har hse hw hs hph hK hfm hcf hm b1 b2 b3 u1
 go_enter Tryz.func13,Tryz.ntmps13
 go_upto_region 1 with (fail)
 rw [<-hq9,<-hq8,<-hq5,<-hq4]
 clear hq4 hq5 hq8 hq9 e1 e2 e3
 generalize (((w.alloc (.cells #[.slice Y.A a.sl.length Y.c,.slice Y.A2 a.st.length Y.c2,.int .i64 a.ow,.int .i64 a.cap,.slice Y.A3 a.dl.length Y.c3,.int .i64 a.dir.vn,.slice Y.D.A a.dir.l.length Y.D.c,.slice Y.D.A2 a.dir.F.length Y.D.c2,.int .i64 a.ep,.int .i64 a.ck,.int .i64 a.ni] 36)).alloc (.cells #[.int .i64 s.ph,.int .i64 s.at_,.slice X.Al s.lk.cs.length X.cl,.int .i64 s.lk.ph,.int .i64 s.lk.hv,.int .i64 s.lk.tr,.int .i64 s.lk.wt,.int .i64 s.sn.ph,.int .i64 s.sn.ep,.int .i64 s.sn.ck,.int .i64 s.sn.sp,.slice X.A s.sh.length X.c,.int .i64 s.dc,.slice X.Ad s.dl.length X.cd,.slice X.At s.st.length X.ct,.int .i64 s.dir.vn,.slice X.D.A s.dir.l.length X.D.c,.slice X.D.A2 s.dir.F.length X.D.c2,.slice X.o.A s.o.sh.length X.o.c,.int .i64 s.o.dc,.slice X.o.Ad s.o.dl.length X.o.cd,.slice X.o.Ao s.o.od.length X.o.co,.slice X.o.Ac s.o.ca.length X.o.cc,.slice X.o.Ae s.o.ed.length X.o.ce,.int .i64 s.lim,.slice X.Ac s.ca.length X.cc] 53)).alloc (.cells #[.slice none 0 0,.slice none 0 0,.int .i64 0,.int .i64 0,.slice none 0 0,.int .i64 0,.slice none 0 0,.slice none 0 0,.int .i64 0,.int .i64 0,.int .i64 0] 36)).alloc (.cells #[.int .i64 0,.int .i64 0,.slice none 0 0,.int .i64 0,.int .i64 0,.int .i64 0,.int .i64 0,.int .i64 0,.int .i64 0,.int .i64 0,.int .i64 0,.slice none 0 0,.int .i64 0,.slice none 0 0,.slice none 0 0,.int .i64 0,.slice none 0 0,.slice none 0 0,.slice none 0 0,.int .i64 0,.slice none 0 0,.slice none 0 0,.slice none 0 0,.slice none 0 0,.int .i64 0,.slice none 0 0] 53)=wr at*
 have HCS:=Lh (fun W (k:Below wr.heap.size wr W)=>(HCS0.out W (HBW.out.trans (k.mono HBW.out.size))).mono fun e w' h1=>show ∃ X1,e=.returned (sev s X1)/\Nw15 W.heap.size s X1 w'/\Below wr.heap.size wr w'/\Below W.heap.size W w' from by
  obtain ⟨X1,e1,hn,hb⟩:=h1
  exact ⟨X1,e1,hn,k.trans (hb.mono k.size),hb⟩)
 have HCA:=Lh (fun W (k:Below wr.heap.size wr W)=>(HCA0.out W (HBW.out.trans (k.mono HBW.out.size))).mono fun e w' h1=>show ∃ Z,e=.returned (av a Z)/\Z.nw W.heap.size/\AR w' w'.heap.size a Z/\Below wr.heap.size wr w'/\Below W.heap.size W w' from by
  obtain ⟨Z,b,e1,hnw,har,hb,-⟩:=h1
  exact ⟨Z,e1,hnw,har,k.trans (hb.mono k.size),hb⟩)
 have HSK:=Lh (show ∀ W,Below wr.heap.size wr W->W.rangeAt q5 0 [.int .i64 s.ph,.int .i64 s.at_,.slice X.Al s.lk.cs.length X.cl,.int .i64 s.lk.ph,.int .i64 s.lk.hv,.int .i64 s.lk.tr,.int .i64 s.lk.wt,.int .i64 s.sn.ph,.int .i64 s.sn.ep,.int .i64 s.sn.ck,.int .i64 s.sn.sp,.slice X.A s.sh.length X.c,.int .i64 s.dc,.slice X.Ad s.dl.length X.cd,.slice X.At s.st.length X.ct,.int .i64 s.dir.vn,.slice X.D.A s.dir.l.length X.D.c,.slice X.D.A2 s.dir.F.length X.D.c2,.slice X.o.A s.o.sh.length X.o.c,.int .i64 s.o.dc,.slice X.o.Ad s.o.dl.length X.o.cd,.slice X.o.Ao s.o.od.length X.o.co,.slice X.o.Ac s.o.ca.length X.o.cc,.slice X.o.Ae s.o.ed.length X.o.ce,.int .i64 s.lim,.slice X.Ac s.ca.length X.cc]/\W.rangeAt q4 0 [.slice Y.A a.sl.length Y.c,.slice Y.A2 a.st.length Y.c2,.int .i64 a.ow,.int .i64 a.cap,.slice Y.A3 a.dl.length Y.c3,.int .i64 a.dir.vn,.slice Y.D.A a.dir.l.length Y.D.c,.slice Y.D.A2 a.dir.F.length Y.D.c2,.int .i64 a.ep,.int .i64 a.ck,.int .i64 a.ni] from fun W k=>⟨(HR5.out.up k).range,(HR4.out.up k).range⟩)
 have HB0:=Lh (bdr (Below.refl wr.heap.size wr))
 clear HCS0 HCA0
 go_cut [11] (fun s11 wx=>∃ (u:Nat) (X1:Sex) (Z:Ax),s11=.pointer (some ⟨u,0,none⟩)/\Hid (UrS wr u s X1 a Z t n wx))
 case first=>
  refine wp_region_noPanic ?_
  refine wp_region_held_drew (S:=fun W=>W.rangeAt q5 0 [.int .i64 s.ph,.int .i64 s.at_,.slice X.Al s.lk.cs.length X.cl,.int .i64 s.lk.ph,.int .i64 s.lk.hv,.int .i64 s.lk.tr,.int .i64 s.lk.wt,.int .i64 s.sn.ph,.int .i64 s.sn.ep,.int .i64 s.sn.ck,.int .i64 s.sn.sp,.slice X.A s.sh.length X.c,.int .i64 s.dc,.slice X.Ad s.dl.length X.cd,.slice X.At s.st.length X.ct,.int .i64 s.dir.vn,.slice X.D.A s.dir.l.length X.D.c,.slice X.D.A2 s.dir.F.length X.D.c2,.slice X.o.A s.o.sh.length X.o.c,.int .i64 s.o.dc,.slice X.o.Ad s.o.dl.length X.o.cd,.slice X.o.Ao s.o.od.length X.o.co,.slice X.o.Ac s.o.ca.length X.o.cc,.slice X.o.Ae s.o.ed.length X.o.ce,.int .i64 s.lim,.slice X.Ac s.ca.length X.cc]/\W.rangeAt q4 0 [.slice Y.A a.sl.length Y.c,.slice Y.A2 a.st.length Y.c2,.int .i64 a.ow,.int .i64 a.cap,.slice Y.A3 a.dl.length Y.c3,.int .i64 a.dir.vn,.slice Y.D.A a.dir.l.length Y.D.c,.slice Y.D.A2 a.dir.F.length Y.D.c2,.int .i64 a.ep,.int .i64 a.ck,.int .i64 a.ni]) (by kernel_rfl) ?hS0 (fun hHeld=>?_)
  case hS0=>exact HSK.out _ HB0.out
  generalize wr.drew=w0 at*
  have HBX:=Lh HB0.out
  refine wpAnyH_take (i:=0) (oi:=?o0x0) (v:=.agg #[.int .i64 s.ph,.int .i64 s.at_,.slice X.Al s.lk.cs.length X.cl,.int .i64 s.lk.ph,.int .i64 s.lk.hv,.int .i64 s.lk.tr,.int .i64 s.lk.wt,.int .i64 s.sn.ph,.int .i64 s.sn.ep,.int .i64 s.sn.ck,.int .i64 s.sn.sp,.slice X.A s.sh.length X.c,.int .i64 s.dc,.slice X.Ad s.dl.length X.cd,.slice X.At s.st.length X.ct,.int .i64 s.dir.vn,.slice X.D.A s.dir.l.length X.D.c,.slice X.D.A2 s.dir.F.length X.D.c2,.slice X.o.A s.o.sh.length X.o.c,.int .i64 s.o.dc,.slice X.o.Ad s.o.dl.length X.o.cd,.slice X.o.Ao s.o.od.length X.o.co,.slice X.o.Ac s.o.ca.length X.o.cc,.slice X.o.Ae s.o.ed.length X.o.ce,.int .i64 s.lim,.slice X.Ac s.ca.length X.cc]) ?hi0x0 (by kernel_rfl) (by kernel_rfl) (by kernel_rfl) (fun _ _ _ h=>h) ?hy0x0 hHeld ?_
  case hi0x0=>simp only [List.getElem?_toArray,List.getElem?_cons_zero];exact rfl
  case hy0x0=>exact yieldsIf_load_mid rfl 53 _ rfl q5 0 rfl [.int .i64 s.ph,.int .i64 s.at_,.slice X.Al s.lk.cs.length X.cl,.int .i64 s.lk.ph,.int .i64 s.lk.hv,.int .i64 s.lk.tr,.int .i64 s.lk.wt,.int .i64 s.sn.ph,.int .i64 s.sn.ep,.int .i64 s.sn.ck,.int .i64 s.sn.sp,.slice X.A s.sh.length X.c,.int .i64 s.dc,.slice X.Ad s.dl.length X.cd,.slice X.At s.st.length X.ct,.int .i64 s.dir.vn,.slice X.D.A s.dir.l.length X.D.c,.slice X.D.A2 s.dir.F.length X.D.c2,.slice X.o.A s.o.sh.length X.o.c,.int .i64 s.o.dc,.slice X.o.Ad s.o.dl.length X.o.cd,.slice X.o.Ao s.o.od.length X.o.co,.slice X.o.Ac s.o.ca.length X.o.cc,.slice X.o.Ae s.o.ed.length X.o.ce,.int .i64 s.lim,.slice X.Ac s.ca.length X.cc] _ (fun w hSw=>hSw.1) (Tryz.underlying53) rfl info_se
  try simp only [Act.put,sIA,sIB,sIC]
  refine wpAnyH_take (i:=2) (oi:=?o2x1) (v:=.agg #[.slice Y.A a.sl.length Y.c,.slice Y.A2 a.st.length Y.c2,.int .i64 a.ow,.int .i64 a.cap,.slice Y.A3 a.dl.length Y.c3,.int .i64 a.dir.vn,.slice Y.D.A a.dir.l.length Y.D.c,.slice Y.D.A2 a.dir.F.length Y.D.c2,.int .i64 a.ep,.int .i64 a.ck,.int .i64 a.ni]) ?hi2x1 (by kernel_rfl) (by kernel_rfl) (by kernel_rfl) (fun _ _ _ h=>h) ?hy2x1 hHeld ?_
  case hi2x1=>simp only [List.getElem?_toArray,List.getElem?_cons_succ,List.getElem?_cons_zero];exact rfl
  case hy2x1=>exact yieldsIf_load_mid rfl 36 _ rfl q4 0 rfl [.slice Y.A a.sl.length Y.c,.slice Y.A2 a.st.length Y.c2,.int .i64 a.ow,.int .i64 a.cap,.slice Y.A3 a.dl.length Y.c3,.int .i64 a.dir.vn,.slice Y.D.A a.dir.l.length Y.D.c,.slice Y.D.A2 a.dir.F.length Y.D.c2,.int .i64 a.ep,.int .i64 a.ck,.int .i64 a.ni] _ (fun w hSw=>hSw.2) (Tryz.underlying36) rfl info_ar15
  try simp only [Act.put,sIA,sIB,sIC]
  refine wpAnyH_take (i:=4) (oi:=?o4x2) (v:=?v4x2) ?hi4x2 (by kernel_rfl) (by kernel_rfl) (by kernel_rfl) (fun _ _ _ h=>h) (Or.inl ⟨?hw4x2,?hy4x2⟩) hHeld ?_
  case hi4x2=>simp only [List.getElem?_toArray,List.getElem?_cons_succ,List.getElem?_cons_zero];exact rfl
  case hw4x2=>rfl
  case hy4x2=>intro w hSw;clear hSw;go_simp;all_goals (with_reducible rfl)
  try simp only [Act.put,sIA,sIB,sIC]
  refine wpAnyH_take (i:=5) (oi:=?o5x3) (v:=?v5x3) ?hi5x3 (by kernel_rfl) (by kernel_rfl) (by kernel_rfl) (fun _ _ _ h=>h) (Or.inl ⟨?hw5x3,?hy5x3⟩) hHeld ?_
  case hi5x3=>simp only [List.getElem?_toArray,List.getElem?_cons_succ,List.getElem?_cons_zero];exact rfl
  case hw5x3=>rfl
  case hy5x3=>intro w hSw;clear hSw;go_simp;all_goals (with_reducible rfl)
  try simp only [Act.put,sIA,sIB,sIC]
  refine wpAnyH_ready (rs:=[1,7]) (by kernel_rfl) (by simp) ?_
  refine AllReadyH.cons (o:=?o1x4) ?ho1x4 ?st1x4 (AllReadyH.cons (o:=?o7x4) ?ho7x4 ?st7x4 AllReadyH.nil)
  case ho1x4=>simp only [List.getElem?_toArray,List.getElem?_cons_succ,List.getElem?_cons_zero];exact rfl
  case ho7x4=>simp only [List.getElem?_toArray,List.getElem?_cons_succ,List.getElem?_cons_zero];exact rfl
  case st1x4=>
   intro K hK
   go_simp
   go_at_call 30
   (with_reducible refine (HCS.out _ HBX.out).mono ?_)
   rintro e w5 ⟨X1,rfl,hn,hB,hb⟩
   have HN5:=Lh (hn.low HBX.out.size)
   replace HBX:=Lh hB
   clear hn hB hb
   refine hK.out _ _ ?hS1x4 (fun hHeld=>?_)
   case hS1x4=>exact HSK.out _ HBX.out
   clear hK K
   try simp only [Act.put,sIA,sIB,sIC]
   refine wpAnyH_ready (rs:=[3,7]) (by kernel_rfl) (by simp) ?_
   refine AllReadyH.cons (o:=?o3x5) ?ho3x5 ?st3x5 (AllReadyH.cons (o:=?o7x5) ?ho7x5 ?st7x5 AllReadyH.nil)
   case ho3x5=>simp only [List.getElem?_toArray,List.getElem?_cons_succ,List.getElem?_cons_zero];exact rfl
   case ho7x5=>simp only [List.getElem?_toArray,List.getElem?_cons_succ,List.getElem?_cons_zero];exact rfl
   case st3x5=>
    intro K hK
    go_simp
    go_at_call 32
    (with_reducible refine (HCA.out _ HBX.out).mono ?_)
    rintro e w6 ⟨Z,rfl,hnw,har,hB,hb⟩
    have HAR:=Lh har
    have HZW:=Lh (hnw.low HBX.out.size)
    have HOB0:=Lh (show OB15 s X1 (fun b=>b<w6.heap.size/\AOff a Z b) from HN5.out.ob.mono (fun b hlt=>And.intro (Nat.lt_of_lt_of_le hlt hb.size) (hnw.off hlt)))
    replace HN5:=Lh (HN5.out.up hb)
    replace HBX:=Lh hB
    clear hnw har hB hb
    refine hK.out _ _ ?hS3x5 (fun hHeld=>?_)
    case hS3x5=>exact HSK.out _ HBX.out
    clear hK K
    try simp only [Act.put,sIA,sIB,sIC]
    refine wpAnyH_take (i:=6) (oi:=?o6x6) (v:=?v6x6) ?hi6x6 (by kernel_rfl) (by kernel_rfl) (by kernel_rfl) (fun _ _ _ h=>h) (Or.inl ⟨?hw6x6,?hy6x6⟩) hHeld ?_
    case hi6x6=>simp only [List.getElem?_toArray,List.getElem?_cons_succ,List.getElem?_cons_zero];exact rfl
    case hw6x6=>rfl
    case hy6x6=>intro w hSw;clear hSw;go_simp;all_goals (with_reducible rfl)
    try simp only [Act.put,sIA,sIB,sIC]
    refine wpAnyH_ready (rs:=[7]) (by kernel_rfl) (by simp) ?_
    refine AllReadyH.cons (o:=?o7x7) ?ho7x7 ?st7x7 AllReadyH.nil
    case ho7x7=>simp only [List.getElem?_toArray,List.getElem?_cons_succ,List.getElem?_cons_zero];exact rfl
    case st7x7=>
     intro K hK
     have HX:=Lh (Rb.start w6 [.int .i64 0,.int .i64 0,.slice none 0 0,.int .i64 0,.int .i64 0,.int .i64 0,.int .i64 0,.int .i64 0,.int .i64 0,.int .i64 0,.int .i64 0,.slice none 0 0,.int .i64 0,.slice none 0 0,.slice none 0 0,.int .i64 0,.slice none 0 0,.slice none 0 0,.slice none 0 0,.int .i64 0,.slice none 0 0,.slice none 0 0,.slice none 0 0,.slice none 0 0,.int .i64 0,.slice none 0 0,.slice none 0 0,.slice none 0 0,.int .i64 0,.int .i64 0,.slice none 0 0,.int .i64 0,.slice none 0 0,.slice none 0 0,.int .i64 0,.int .i64 0,.int .i64 0,.int .i64 0,.int .i64 0] 99)
     have hal:=(Below.refl w6.heap.size w6).alloc (nLR _) (.cells #[.int .i64 0,.int .i64 0,.slice none 0 0,.int .i64 0,.int .i64 0,.int .i64 0,.int .i64 0,.int .i64 0,.int .i64 0,.int .i64 0,.int .i64 0,.slice none 0 0,.int .i64 0,.slice none 0 0,.slice none 0 0,.int .i64 0,.slice none 0 0,.slice none 0 0,.slice none 0 0,.int .i64 0,.slice none 0 0,.slice none 0 0,.slice none 0 0,.slice none 0 0,.int .i64 0,.slice none 0 0,.slice none 0 0,.slice none 0 0,.int .i64 0,.int .i64 0,.slice none 0 0,.int .i64 0,.slice none 0 0,.slice none 0 0,.int .i64 0,.int .i64 0,.int .i64 0,.int .i64 0,.int .i64 0] 99)
     have HXA:=Lh (HAR.out.offs (nLR w6.heap.size))
     have HXR:=Lh (HN5.out.se.r.offs (nLR w6.heap.size))
     have HUU:=Lh HBX.out.size
     have HOB:=Lh (show OB15 s X1 (fun b=>b≠w6.heap.size/\AOff a Z b) from HOB0.out.mono (fun b h=>And.intro (Nat.ne_of_lt h.1) h.2))
     replace HBX:=Lh (HBX.out.trans (hal.mono HBX.out.size))
     replace HN5:=Lh (HN5.out.up hal)
     replace HAR:=Lh (HAR.out.up hal)
     clear hal HOB0
     go_simp
     refine hK.out _ _ ?hS7x7 (fun hHeld=>?_)
     case hS7x7=>exact HSK.out _ HBX.out
     clear hK K
     try simp only [Act.put,sIA,sIB,sIC]
     refine wpAnyH_ready (rs:=[8]) (by kernel_rfl) (by simp) ?_
     refine AllReadyH.cons (o:=?o8x8) ?ho8x8 ?st8x8 AllReadyH.nil
     case ho8x8=>simp only [List.getElem?_toArray,List.getElem?_cons_succ,List.getElem?_cons_zero];exact rfl
     case st8x8=>
      intro K hK
      refine wp_store_mid 99 _ _ rfl w6.heap.size 0 (rcl s X1 a Z t n).toArray rfl rfl HX.out.there (by rw [info_run15,List.size_toArray,rcl_len]) (rcl_one s X1 a Z t n) ?_
      refine hK.out _ _ ?hS8x8 (fun hHeld=>?_)
      case hS8x8=>rw [<-stN15_set];exact HSK.out _ (stN15_below HBX.out HUU.out 0)
      clear hK K
      try simp only [Act.put,sIA,sIB,sIC]
      refine wpAnyH_done (by kernel_rfl) ?_ _
      refine NoPanic.normal ?_
      rw [<-stN15_set]
      go_wp2_with fail
      go_meet
      exact ⟨_,X1,Z,rfl,Lh (urs_start HX.out rfl HUU.out HBX.out HN5.out HAR.out HZW.out HXR.out HXA.out HOB.out)⟩
   case st7x5=>
    intro K hK
    have HX:=Lh (Rb.start w5 [.int .i64 0,.int .i64 0,.slice none 0 0,.int .i64 0,.int .i64 0,.int .i64 0,.int .i64 0,.int .i64 0,.int .i64 0,.int .i64 0,.int .i64 0,.slice none 0 0,.int .i64 0,.slice none 0 0,.slice none 0 0,.int .i64 0,.slice none 0 0,.slice none 0 0,.slice none 0 0,.int .i64 0,.slice none 0 0,.slice none 0 0,.slice none 0 0,.slice none 0 0,.int .i64 0,.slice none 0 0,.slice none 0 0,.slice none 0 0,.int .i64 0,.int .i64 0,.slice none 0 0,.int .i64 0,.slice none 0 0,.slice none 0 0,.int .i64 0,.int .i64 0,.int .i64 0,.int .i64 0,.int .i64 0] 99)
    have hal:=(Below.refl w5.heap.size w5).alloc (nLR _) (.cells #[.int .i64 0,.int .i64 0,.slice none 0 0,.int .i64 0,.int .i64 0,.int .i64 0,.int .i64 0,.int .i64 0,.int .i64 0,.int .i64 0,.int .i64 0,.slice none 0 0,.int .i64 0,.slice none 0 0,.slice none 0 0,.int .i64 0,.slice none 0 0,.slice none 0 0,.slice none 0 0,.int .i64 0,.slice none 0 0,.slice none 0 0,.slice none 0 0,.slice none 0 0,.int .i64 0,.slice none 0 0,.slice none 0 0,.slice none 0 0,.int .i64 0,.int .i64 0,.slice none 0 0,.int .i64 0,.slice none 0 0,.slice none 0 0,.int .i64 0,.int .i64 0,.int .i64 0,.int .i64 0,.int .i64 0] 99)
    have HXR:=Lh (HN5.out.se.r.offs (nLR w5.heap.size))
    have HUU:=Lh HBX.out.size
    have HOL:=Lh HN5.out.ob
    replace HBX:=Lh (HBX.out.trans (hal.mono HBX.out.size))
    replace HN5:=Lh (HN5.out.up hal)
    clear hal
    go_simp
    refine hK.out _ _ ?hS7x5 (fun hHeld=>?_)
    case hS7x5=>exact HSK.out _ HBX.out
    clear hK K
    try simp only [Act.put,sIA,sIB,sIC]
    refine wpAnyH_ready (rs:=[3]) (by kernel_rfl) (by simp) ?_
    refine AllReadyH.cons (o:=?o3x9) ?ho3x9 ?st3x9 AllReadyH.nil
    case ho3x9=>simp only [List.getElem?_toArray,List.getElem?_cons_succ,List.getElem?_cons_zero];exact rfl
    case st3x9=>
     intro K hK
     go_simp
     go_at_call 32
     (with_reducible refine (HCA.out _ HBX.out).mono ?_)
     rintro e w6 ⟨Z,rfl,hnw,har,hB,hb⟩
     have HAR:=Lh har
     have HZW:=Lh (hnw.low HBX.out.size)
     have HOB:=Lh (show OB15 s X1 (fun b=>b≠w5.heap.size/\AOff a Z b) from HOL.out.mono (fun b hlt=>And.intro (Nat.ne_of_lt hlt) (hnw.off (Nat.lt_trans hlt HX.out.lt))))
     have HXA:=Lh (show AOff a Z w5.heap.size from hnw.off HX.out.lt)
     replace HX:=Lh (HX.out.up hb)
     replace HN5:=Lh (HN5.out.up hb)
     replace HBX:=Lh hB
     clear hnw har hB hb HOL
     refine hK.out _ _ ?hS3x9 (fun hHeld=>?_)
     case hS3x9=>exact HSK.out _ HBX.out
     clear hK K
     try simp only [Act.put,sIA,sIB,sIC]
     refine wpAnyH_take (i:=6) (oi:=?o6x10) (v:=?v6x10) ?hi6x10 (by kernel_rfl) (by kernel_rfl) (by kernel_rfl) (fun _ _ _ h=>h) (Or.inl ⟨?hw6x10,?hy6x10⟩) hHeld ?_
     case hi6x10=>simp only [List.getElem?_toArray,List.getElem?_cons_succ,List.getElem?_cons_zero];exact rfl
     case hw6x10=>rfl
     case hy6x10=>intro w hSw;clear hSw;go_simp;all_goals (with_reducible rfl)
     try simp only [Act.put,sIA,sIB,sIC]
     refine wpAnyH_ready (rs:=[8]) (by kernel_rfl) (by simp) ?_
     refine AllReadyH.cons (o:=?o8x11) ?ho8x11 ?st8x11 AllReadyH.nil
     case ho8x11=>simp only [List.getElem?_toArray,List.getElem?_cons_succ,List.getElem?_cons_zero];exact rfl
     case st8x11=>
      intro K hK
      refine wp_store_mid 99 _ _ rfl w5.heap.size 0 (rcl s X1 a Z t n).toArray rfl rfl HX.out.there (by rw [info_run15,List.size_toArray,rcl_len]) (rcl_one s X1 a Z t n) ?_
      refine hK.out _ _ ?hS8x11 (fun hHeld=>?_)
      case hS8x11=>rw [<-stN15_set];exact HSK.out _ (stN15_below HBX.out HUU.out 0)
      clear hK K
      try simp only [Act.put,sIA,sIB,sIC]
      refine wpAnyH_done (by kernel_rfl) ?_ _
      refine NoPanic.normal ?_
      rw [<-stN15_set]
      go_wp2_with fail
      go_meet
      exact ⟨_,X1,Z,rfl,Lh (urs_start HX.out rfl HUU.out HBX.out HN5.out HAR.out HZW.out HXR.out HXA.out HOB.out)⟩
  case st7x4=>
   intro K hK
   have HX:=Lh (Rb.start w0 [.int .i64 0,.int .i64 0,.slice none 0 0,.int .i64 0,.int .i64 0,.int .i64 0,.int .i64 0,.int .i64 0,.int .i64 0,.int .i64 0,.int .i64 0,.slice none 0 0,.int .i64 0,.slice none 0 0,.slice none 0 0,.int .i64 0,.slice none 0 0,.slice none 0 0,.slice none 0 0,.int .i64 0,.slice none 0 0,.slice none 0 0,.slice none 0 0,.slice none 0 0,.int .i64 0,.slice none 0 0,.slice none 0 0,.slice none 0 0,.int .i64 0,.int .i64 0,.slice none 0 0,.int .i64 0,.slice none 0 0,.slice none 0 0,.int .i64 0,.int .i64 0,.int .i64 0,.int .i64 0,.int .i64 0] 99)
   have HUU:=Lh HBX.out.size
   have hal:=(Below.refl w0.heap.size w0).alloc (nLR _) (.cells #[.int .i64 0,.int .i64 0,.slice none 0 0,.int .i64 0,.int .i64 0,.int .i64 0,.int .i64 0,.int .i64 0,.int .i64 0,.int .i64 0,.int .i64 0,.slice none 0 0,.int .i64 0,.slice none 0 0,.slice none 0 0,.int .i64 0,.slice none 0 0,.slice none 0 0,.slice none 0 0,.int .i64 0,.slice none 0 0,.slice none 0 0,.slice none 0 0,.slice none 0 0,.int .i64 0,.slice none 0 0,.slice none 0 0,.slice none 0 0,.int .i64 0,.int .i64 0,.slice none 0 0,.int .i64 0,.slice none 0 0,.slice none 0 0,.int .i64 0,.int .i64 0,.int .i64 0,.int .i64 0,.int .i64 0] 99)
   replace HBX:=Lh (HBX.out.trans (hal.mono HBX.out.size))
   clear hal
   go_simp
   refine hK.out _ _ ?hS7x4 (fun hHeld=>?_)
   case hS7x4=>exact HSK.out _ HBX.out
   clear hK K
   try simp only [Act.put,sIA,sIB,sIC]
   refine wpAnyH_ready (rs:=[1]) (by kernel_rfl) (by simp) ?_
   refine AllReadyH.cons (o:=?o1x12) ?ho1x12 ?st1x12 AllReadyH.nil
   case ho1x12=>simp only [List.getElem?_toArray,List.getElem?_cons_succ,List.getElem?_cons_zero];exact rfl
   case st1x12=>
    intro K hK
    go_simp
    go_at_call 30
    (with_reducible refine (HCS.out _ HBX.out).mono ?_)
    rintro e w5 ⟨X1,rfl,hn,hB,hb⟩
    have HOL:=Lh (show OB15 s X1 (fun b=>b≠w0.heap.size/\b<w5.heap.size) from ⟨fun b e=>⟨Nat.ne_of_gt (Nat.lt_of_lt_of_le HX.out.lt (hn.os.lt b e).1),(hn.os.lt b e).2⟩,fun b e=>⟨Nat.ne_of_gt (Nat.lt_of_lt_of_le HX.out.lt (hn.oh.lt b e).1),(hn.oh.lt b e).2⟩⟩)
    have HXR:=Lh (hn.nw.off HX.out.lt)
    replace HX:=Lh (HX.out.up hb)
    have HN5:=Lh (hn.low HBX.out.size)
    replace HBX:=Lh hB
    clear hn hB hb
    refine hK.out _ _ ?hS1x12 (fun hHeld=>?_)
    case hS1x12=>exact HSK.out _ HBX.out
    clear hK K
    try simp only [Act.put,sIA,sIB,sIC]
    refine wpAnyH_ready (rs:=[3]) (by kernel_rfl) (by simp) ?_
    refine AllReadyH.cons (o:=?o3x13) ?ho3x13 ?st3x13 AllReadyH.nil
    case ho3x13=>simp only [List.getElem?_toArray,List.getElem?_cons_succ,List.getElem?_cons_zero];exact rfl
    case st3x13=>
     intro K hK
     go_simp
     go_at_call 32
     (with_reducible refine (HCA.out _ HBX.out).mono ?_)
     rintro e w6 ⟨Z,rfl,hnw,har,hB,hb⟩
     have HAR:=Lh har
     have HZW:=Lh (hnw.low HBX.out.size)
     have HOB:=Lh (show OB15 s X1 (fun b=>b≠w0.heap.size/\AOff a Z b) from HOL.out.mono (fun b h=>And.intro h.1 (hnw.off h.2)))
     have HXA:=Lh (show AOff a Z w0.heap.size from hnw.off HX.out.lt)
     replace HX:=Lh (HX.out.up hb)
     replace HN5:=Lh (HN5.out.up hb)
     replace HBX:=Lh hB
     clear hnw har hB hb HOL
     refine hK.out _ _ ?hS3x13 (fun hHeld=>?_)
     case hS3x13=>exact HSK.out _ HBX.out
     clear hK K
     try simp only [Act.put,sIA,sIB,sIC]
     refine wpAnyH_take (i:=6) (oi:=?o6x14) (v:=?v6x14) ?hi6x14 (by kernel_rfl) (by kernel_rfl) (by kernel_rfl) (fun _ _ _ h=>h) (Or.inl ⟨?hw6x14,?hy6x14⟩) hHeld ?_
     case hi6x14=>simp only [List.getElem?_toArray,List.getElem?_cons_succ,List.getElem?_cons_zero];exact rfl
     case hw6x14=>rfl
     case hy6x14=>intro w hSw;clear hSw;go_simp;all_goals (with_reducible rfl)
     try simp only [Act.put,sIA,sIB,sIC]
     refine wpAnyH_ready (rs:=[8]) (by kernel_rfl) (by simp) ?_
     refine AllReadyH.cons (o:=?o8x15) ?ho8x15 ?st8x15 AllReadyH.nil
     case ho8x15=>simp only [List.getElem?_toArray,List.getElem?_cons_succ,List.getElem?_cons_zero];exact rfl
     case st8x15=>
      intro K hK
      refine wp_store_mid 99 _ _ rfl w0.heap.size 0 (rcl s X1 a Z t n).toArray rfl rfl HX.out.there (by rw [info_run15,List.size_toArray,rcl_len]) (rcl_one s X1 a Z t n) ?_
      refine hK.out _ _ ?hS8x15 (fun hHeld=>?_)
      case hS8x15=>rw [<-stN15_set];exact HSK.out _ (stN15_below HBX.out HUU.out 0)
      clear hK K
      try simp only [Act.put,sIA,sIB,sIC]
      refine wpAnyH_done (by kernel_rfl) ?_ _
      refine NoPanic.normal ?_
      rw [<-stN15_set]
      go_wp2_with fail
      go_meet
      exact ⟨_,X1,Z,rfl,Lh (urs_start HX.out rfl HUU.out HBX.out HN5.out HAR.out HZW.out HXR.out HXA.out HOB.out)⟩
 case rest=>
  obtain ⟨u,X1,Z,rfl,HU⟩:=hcut
  have HQL:=Lh (show q8<wr.heap.size/\q9<wr.heap.size/\q5<wr.heap.size/\wr.heap.size<=u from ⟨HR8.out.lt,HR9.out.lt,HR5.out.lt,HU.out.ur.ne⟩)
  have HR5b:=Lh (HR5.out.up HU.out.bel)
  have HR8b:=Lh (HR8.out.up HU.out.bel)
  have HR9b:=Lh (HR9.out.up HU.out.bel)
  have HBC:=Lh (HBW.out.trans (HU.out.bel.mono HBW.out.size))
  clear HCS HCA HSK HB0 HR4 HR5 HR8 HR9
  generalize wc=w1 at*
  have HMM:=Lh (fun W (k:Below w1.heap.size w1 W)=>HM.out wr u X1 Z W ⟨HU.out.ur.up k,HU.out.us.up k,HU.out.uo.up k,HU.out.bel.trans (k.mono HU.out.bel.size)⟩)
  have HPS:=Lh (fun W=>uphases_any u W)
  have hwf:(Lit.int .i64 K).wf=true:=wf_i64 (by have:=HKK.out;omega) (by have:=HKK.out;omega)
  have HWF:=Lh hwf
  clear hwf HM
  have c0:w1.cell? ⟨q5,0,none⟩=some (.int .i64 K):=by rw [<-HPH.out];exact HR5b.out.c 0 _ rfl
  have yl:=HR5b.out.lt
  have HC0:=Lh (And.intro c0 yl)
  go_upto_region 2 with (fail)
  go_cut [12,13] (fun s12 s13 wx=>s12=.func (.func fm) #[.pointer (some ⟨u,0,none⟩)] #[]/\s13=.bool true/\Hid (Below w1.heap.size w1 wx))
  case first=>
   go_wp2_with fail
   go_region_law (first | (go_simp;go_at_call 33;(with_reducible refine (HPS.out _).mono ?_);rintro e w5 ⟨b,rfl,hfm,hb⟩;have hlk:=hfm.look HWF.out (HFM.out u);have c0:=(hb.cell (p:=⟨q5,0,none⟩) (show q5<_ from HC0.out.2)).trans HC0.out.1;have yl:=Nat.lt_of_lt_of_le HC0.out.2 hb.size;have HB5:=Lh (show Below w1.heap.size w1 w5 from (bdr (Below.refl w1.heap.size w1)).trans (hb.mono (nLR _)));clear hfm hb))
   all_goals
    go_wp2_with fail
    go_meet
    exact ⟨rfl,rfl,HB5⟩
  case rest=>
   obtain ⟨rfl,rfl,HB1⟩:=hcut
   have HMX:=Lh (HMM.out wc HB1.out)
   replace HR8b:=Lh (HR8b.out.up HB1.out)
   replace HR9b:=Lh (HR9b.out.up HB1.out)
   replace HBC:=Lh (HBC.out.trans (HB1.out.mono HBC.out.size))
   have HWS:=Lh (Nat.le_trans HU.out.bel.size HB1.out.size)
   clear HMM HPS HU HC0 c0 yl HB1 HR5b
   generalize wc=w2 at*
   have hcf:=HCF.out
   go_wp2_with fail
   clear hcf
   refine HMX.out.mono ?_
   rintro e w3 ⟨X2,Y2,rfl,hu,hb⟩
   have HU:=Lh hu
   have HQ8:=Lh (HR8b.out.keepB hb HQL.out.1)
   have HQ9:=Lh (HR9b.out.keepB hb HQL.out.2.1)
   have HBF:=Lh (HBC.out.trans (hb.mono HBW.out.size))
   clear hu hb HMX HR8b HR9b HBC HWS
   go_upto_region 8 with (fail)
   have hd:=(Below.refl w3.heap.size w3).drew
   have HUD:=Lh (HU.out.up hd)
   replace HQ8:=Lh (HQ8.out.up hd)
   replace HQ9:=Lh (HQ9.out.up hd)
   replace HBF:=Lh (HBF.out.trans (hd.mono HBF.out.size))
   clear hd HU
   go_cut [10] (fun s10 wx=>s10=.int .i64 0/\Hid (Fi15 w q8 q9 a2 Y2 s2 X2 wx))
   case first=>
    have n89:q8≠q9:=Nat.ne_of_lt HQ.out.2.1
    have n8u:¬u=q8:=by have:=HQL.out;omega
    have n9u:¬u=q9:=by have:=HQL.out;omega
    refine wp_region_noPanic ?_
    refine wp_region_held_drew (S:=fun W=>W.rangeAt u 0 (scl15 s2 X2)/\W.rangeAt u 26 (acl15 a2 Y2)) (by kernel_rfl) ?hS0 (fun hHeld=>?_)
    case hS0=>exact rng_of HUD.out.rb
    generalize w3.drew=w4 at*
    have HFI:=Lh (fi15 HQ8.out HQ9.out rfl rfl n89 HUD.out.ar HUD.out.se ⟨HUD.out.an.off HQL.out.1,HUD.out.sn.off HQL.out.1⟩ ⟨HUD.out.an.off HQL.out.2.1,HUD.out.sn.off HQL.out.2.1⟩ HBF.out HQ.out.1 HQ.out.2.2)
    have HS1:=Lh (HUD.out.stq (o:=0) (vs:=(acl15 a2 Y2)) n8u)
    have HS3:=Lh (rng_of ((HUD.out.rb.stNo (vs:=(acl15 a2 Y2)) (fun e=>n8u e.symm) 0).stNo (vs:=(scl15 s2 X2)) (fun e=>n9u e.symm) 0))
    have HT9:=Lh (HQ9.out.stNo (vs:=(acl15 a2 Y2)) n89 0)
    have HS2:=Lh (HUD.out.stq (o:=0) (vs:=(scl15 s2 X2)) n9u)
    refine wpAnyH_take (i:=0) (oi:=?o0x16) (v:=?v0x16) ?hi0x16 (by kernel_rfl) (by kernel_rfl) (by kernel_rfl) (fun _ _ _ h=>h) (Or.inl ⟨?hw0x16,?hy0x16⟩) hHeld ?_
    case hi0x16=>simp only [List.getElem?_toArray,List.getElem?_cons_zero];exact rfl
    case hw0x16=>rfl
    case hy0x16=>intro w hSw;clear hSw;go_simp;all_goals (with_reducible rfl)
    try simp only [Act.put,sIA,sIB,sIC]
    refine wpAnyH_take (i:=1) (oi:=?o1x17) (v:=.agg (acl15 a2 Y2).toArray) ?hi1x17 (by kernel_rfl) (by kernel_rfl) (by kernel_rfl) (fun _ _ _ h=>h) ?hy1x17 hHeld ?_
    case hi1x17=>simp only [List.getElem?_toArray,List.getElem?_cons_succ,List.getElem?_cons_zero];exact rfl
    case hy1x17=>exact yieldsIf_load_mid rfl 36 _ rfl u 26 rfl (acl15 a2 Y2) _ (fun w hSw=>hSw.2) (Tryz.underlying36) rfl info_ar15
    try simp only [Act.put,sIA,sIB,sIC]
    refine wpAnyH_take (i:=2) (oi:=?o2x18) (v:=?v2x18) ?hi2x18 (by kernel_rfl) (by kernel_rfl) (by kernel_rfl) (fun _ _ _ h=>h) (Or.inl ⟨?hw2x18,?hy2x18⟩) hHeld ?_
    case hi2x18=>simp only [List.getElem?_toArray,List.getElem?_cons_succ,List.getElem?_cons_zero];exact rfl
    case hw2x18=>rfl
    case hy2x18=>intro w hSw;clear hSw;go_simp;all_goals (with_reducible rfl)
    try simp only [Act.put,sIA,sIB,sIC]
    refine wpAnyH_take (i:=3) (oi:=?o3x19) (v:=.agg (scl15 s2 X2).toArray) ?hi3x19 (by kernel_rfl) (by kernel_rfl) (by kernel_rfl) (fun _ _ _ h=>h) ?hy3x19 hHeld ?_
    case hi3x19=>simp only [List.getElem?_toArray,List.getElem?_cons_succ,List.getElem?_cons_zero];exact rfl
    case hy3x19=>exact yieldsIf_load_mid rfl 53 _ rfl u 0 rfl (scl15 s2 X2) _ (fun w hSw=>hSw.1) (Tryz.underlying53) rfl info_se
    try simp only [Act.put,sIA,sIB,sIC]
    refine wpAnyH_ready (rs:=[4]) (by kernel_rfl) (by simp) ?_
    refine AllReadyH.cons (o:=?o4x20) ?ho4x20 ?st4x20 AllReadyH.nil
    case ho4x20=>simp only [List.getElem?_toArray,List.getElem?_cons_succ,List.getElem?_cons_zero];exact rfl
    case st4x20=>
     intro K hK
     refine wp_store_st 36 _ _ rfl q8 [.slice none 0 0,.slice none 0 0,.int .i64 0,.int .i64 0,.slice none 0 0,.int .i64 0,.slice none 0 0,.slice none 0 0,.int .i64 0,.int .i64 0,.int .i64 0] (acl15 a2 Y2) rfl rfl HQ8.out (acl15_len _ _) info_ar15 (acl15_one _ _) ?_
     refine hK.out _ _ ?hS4x20 (fun hHeld=>?_)
     case hS4x20=>exact HS1.out
     clear hK K
     try simp only [Act.put,sIA,sIB,sIC]
     clear hHeld
     have hHeld:=HS1.out
     clear HS2 HQ8 HQ9
     generalize stN15 w4 q8 0 (acl15 a2 Y2)=w5 at*
     refine wpAnyH_ready (rs:=[5]) (by kernel_rfl) (by simp) ?_
     refine AllReadyH.cons (o:=?o5x21) ?ho5x21 ?st5x21 AllReadyH.nil
     case ho5x21=>simp only [List.getElem?_toArray,List.getElem?_cons_succ,List.getElem?_cons_zero];exact rfl
     case st5x21=>
      intro K hK
      refine wp_store_st 53 _ _ rfl q9 [.int .i64 0,.int .i64 0,.slice none 0 0,.int .i64 0,.int .i64 0,.int .i64 0,.int .i64 0,.int .i64 0,.int .i64 0,.int .i64 0,.int .i64 0,.slice none 0 0,.int .i64 0,.slice none 0 0,.slice none 0 0,.int .i64 0,.slice none 0 0,.slice none 0 0,.slice none 0 0,.int .i64 0,.slice none 0 0,.slice none 0 0,.slice none 0 0,.slice none 0 0,.int .i64 0,.slice none 0 0] (scl15 s2 X2) rfl rfl HT9.out (scl15_len _ _) info_se (scl15_one _ _) ?_
      refine hK.out _ _ ?hS5x21 (fun hHeld=>?_)
      case hS5x21=>exact HS3.out
      clear hK K
      try simp only [Act.put,sIA,sIB,sIC]
      clear hHeld
      have hHeld:=HS3.out
      clear HT9 HS1
      generalize stN15 w5 q9 0 (scl15 s2 X2)=w6 at*
      refine wpAnyH_take (i:=6) (oi:=?o6x22) (v:=?v6x22) ?hi6x22 (by kernel_rfl) (by kernel_rfl) (by kernel_rfl) (fun _ _ _ h=>h) (Or.inl ⟨?hw6x22,?hy6x22⟩) hHeld ?_
      case hi6x22=>simp only [List.getElem?_toArray,List.getElem?_cons_succ,List.getElem?_cons_zero];exact rfl
      case hw6x22=>rfl
      case hy6x22=>intro w hSw;clear hSw;go_simp;all_goals (with_reducible rfl)
      try simp only [Act.put,sIA,sIB,sIC]
      refine wpAnyH_done (by kernel_rfl) ?_ _
      refine NoPanic.normal ?_
      go_wp2_with fail
      go_meet
      exact ⟨rfl,Lh HFI.out⟩
   case rest=>
    obtain ⟨rfl,HFI⟩:=hcut
    have HF:=Lh (show SE15n w a2 s2 0 (.returned (.tuple #[av a2 Y2,sev s2 X2,.int .i64 0])) wc from ⟨Y2,X2,rfl,HUD.out.an.low HBW.out.size,HUD.out.sn.low HBW.out.size,HFI.out.ar,HFI.out.se,HFI.out.bel⟩)
    have hlv8:(loadVar 36 ⟨q8,0,none⟩).run Tryz.prog wc=.ok (av a2 Y2) wc:=run_loadVar_mid wc q8 0 36 (acl15 a2 Y2) _ HFI.out.r8.range (Tryz.underlying36) rfl info_ar15
    have hlv9:(loadVar 53 ⟨q9,0,none⟩).run Tryz.prog wc=.ok (sev s2 X2) wc:=run_loadVar_mid wc q9 0 53 (scl15 s2 X2) _ HFI.out.r9.range (Tryz.underlying53) rfl info_se
    clear HFI HUD HQ8 HQ9 HBF
    go_wp2
    exact bodyPost_ret (v:=.tuple #[av a2 Y2,sev s2 X2,.int .i64 0]) (by simp only [results,Tryz.results13];simp [Sem.run_bind,asAddr,hlv8,hlv9,Act.put]) rfl HF.out
end Go.Proofs.YtkecnihgjepfeaaGreat
