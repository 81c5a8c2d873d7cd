/- What is proved here: parts of the proof: Ut. -/
import Derived.Test.YtkecnihgjepfeaaGreatJ38
import Derived.Test.YtkecnihgjepfeaaGreatJ39
namespace Go.Proofs.YtkecnihgjepfeaaGreat
open Go.RowKit
set_option linter.unusedVariables false
set_option linter.unusedSimpArgs false
set_option maxHeartbeats 8000000
set_option maxRecDepth 20000
structure SmC (s:Se):Prop where
 lk:s.lk.cs.length<=9
 sh:SmS s.sh
 dl:s.dl.length<=1000
 st:s.st.length<=1000
 dr:s.dir.l.length<=1000/\s.dir.F.length<=1000
 ca:s.ca.length<=1000
 o:SmO s.o
structure Nw15 (lo:Nat) (s:Se) (X:Sex) (W:World):Prop where
 nw:RNw (s.rows X) lo
 se:SeR W W.heap.size s X
 os:W.ownsRow lo 63 4 (.slice X.At s.st.length X.ct) s.st.length (tcs s.st)
 fs:∀ b,(Value.slice X.At s.st.length X.ct).ownBlock=some b->ROff (s.no.rows X.no) b
 oh:W.ownsRow lo 72 8 (.slice X.A s.sh.length X.c) s.sh.length (hcs X.q)
 fh:∀ b,(Value.slice X.A s.sh.length X.c).ownBlock=some b->ROff (s.nh.rows X.nh) b/\ROff (rQ X.q) b
def SV15 (w:World) (s:Se) (e:Ending) (w' : World):Prop:=∃ X,e=.returned (sev s X)/\Nw15 w.heap.size s X w'/\Below w.heap.size w w'
theorem own_low15 {W:World} {base base' size n:Nat} {T:TypeId} {v:Value} {xs:List Value} (h:W.ownsRow base T size v n xs) (hb:base'<=base):W.ownsRow base' T size v n xs:=⟨h.1,h.2.imp_right fun ⟨g,cap,cur,hv,hg,rr⟩=>⟨g,cap,cur,hv,Nat.le_trans hb hg,rr⟩⟩
theorem own_stN {W:World} {base size n p:Nat} {T:TypeId} {v:Value} {xs vs:List Value} (h:W.ownsRow base T size v n xs) (hp:p<base) (o:Nat):(stN15 W p o vs).ownsRow base T size v n xs:=by
 induction vs generalizing W o with
 | nil=>exact h
 | cons u vs ih=>exact ih (ownsRow_setCell_below h (a:=⟨p,o,none⟩) hp u) (o+1)
theorem csection_any (s:Se) (X:Sex) (w:World) (h:SeR w w.heap.size s X) (hs:SmC s):Calls Tryz.prog 30 #[sev s X] w (SV15 w s):=by
 obtain ⟨p,hp⟩:∃ p,p=w.heap.size:=⟨_,rfl⟩
 obtain ⟨r,hr⟩:∃ r,r=w.heap.size+1:=⟨_,rfl⟩
 have H0:=Lh (show Cg w p r [.int .i64 s.ph,.int .i64 s.at_,.slice X.Al s.lk.cs.length X.cl,.int .i64 s.lk.ph,.int .i64 s.lk.hv,.int .i64 s.lk.tr,.int .i64 s.lk.wt,.int .i64 s.sn.ph,.int .i64 s.sn.ep,.int .i64 s.sn.ck,.int .i64 s.sn.sp,.slice X.A s.sh.length X.c,.int .i64 s.dc,.slice X.Ad s.dl.length X.cd,.slice X.At s.st.length X.ct,.int .i64 s.dir.vn,.slice X.D.A s.dir.l.length X.D.c,.slice X.D.A2 s.dir.F.length X.D.c2,.slice X.o.A s.o.sh.length X.o.c,.int .i64 s.o.dc,.slice X.o.Ad s.o.dl.length X.o.cd,.slice X.o.Ao s.o.od.length X.o.co,.slice X.o.Ac s.o.ca.length X.o.cc,.slice X.o.Ae s.o.ed.length X.o.ce,.int .i64 s.lim,.slice X.Ac s.ca.length X.cc] [.int .i64 0,.int .i64 0,.slice none 0 0,.int .i64 0,.int .i64 0,.int .i64 0,.int .i64 0,.int .i64 0,.int .i64 0,.int .i64 0,.int .i64 0,.slice none 0 0,.int .i64 0,.slice none 0 0,.slice none 0 0,.int .i64 0,.slice none 0 0,.slice none 0 0,.slice none 0 0,.int .i64 0,.slice none 0 0,.slice none 0 0,.slice none 0 0,.slice none 0 0,.int .i64 0,.slice none 0 0] (s.rows X) _ from by rw [hr,hp];exact Cg.start 53 53 h.r)
 have HC1:=Lh (fun W (k:Below w.heap.size w W)=>(niclone_any X.Al s.lk.cs.length X.cl s.lk.cs W ((h.lock.below k).more k.size) (by have:=hs.lk;omega)).mono fun _ _ h=>niclp_flv h)
 have HC2:=Lh (fun W (k:Below w.heap.size w W)=>cshards_any X.A X.c X.q W ((h.shards.below k).more k.size) h.ok.qc (by rw [h.ok.q];exact hs.sh))
 rw [h.ok.q,show X.q.length=s.sh.length by rw [<-h.ok.q];simp] at HC2
 have HC3:=Lh (fun W (k:Below w.heap.size w W)=>cdead_any s.dc X.Ad X.cd s.dl W ((h.dead.below k).more k.size) hs.dl)
 have HC4:=Lh (fun W (k:Below w.heap.size w W)=>stclone_any X.At s.st.length X.ct s.st W ((h.stripes.below k).more k.size) hs.st)
 have HC5:=Lh (fun W (k:Below w.heap.size w W)=>cdir_any s.dir X.D W ((h.dr.below k).more k.size) hs.dr.1 hs.dr.2)
 have HC6:=Lh (fun W (k:Below w.heap.size w W)=>coutcome_any s.o X.o W ((h.out.below k).more k.size) hs.o)
 have HC7:=Lh (fun W (k:Below w.heap.size w W)=>(mgclone_any X.Ac s.ca.length X.cc s.ca W ((h.carry.below k).more k.size) hs.ca).mono fun _ _ h=>mgclp_lsv h)
 have HPP:=Lh (And.intro hp hr)
 clear hp hr h hs
 go_enter Tryz.func30,Tryz.ntmps30
 go_upto_region 1 with (fail)
 rw [<-HPP.out.2,<-HPP.out.1]
 generalize (w.alloc (.cells #[.int .i64 s.ph,.int .i64 s.at_,.slice X.Al s.lk.cs.length X.cl,.int .i64 s.lk.ph,.int .i64 s.lk.hv,.int .i64 s.lk.tr,.int .i64 s.lk.wt,.int .i64 s.sn.ph,.int .i64 s.sn.ep,.int .i64 s.sn.ck,.int .i64 s.sn.sp,.slice X.A s.sh.length X.c,.int .i64 s.dc,.slice X.Ad s.dl.length X.cd,.slice X.At s.st.length X.ct,.int .i64 s.dir.vn,.slice X.D.A s.dir.l.length X.D.c,.slice X.D.A2 s.dir.F.length X.D.c2,.slice X.o.A s.o.sh.length X.o.c,.int .i64 s.o.dc,.slice X.o.Ad s.o.dl.length X.o.cd,.slice X.o.Ao s.o.od.length X.o.co,.slice X.o.Ac s.o.ca.length X.o.cc,.slice X.o.Ae s.o.ed.length X.o.ce,.int .i64 s.lim,.slice X.Ac s.ca.length X.cc] 53)).alloc (.cells #[.int .i64 0,.int .i64 0,.slice none 0 0,.int .i64 0,.int .i64 0,.int .i64 0,.int .i64 0,.int .i64 0,.int .i64 0,.int .i64 0,.int .i64 0,.slice none 0 0,.int .i64 0,.slice none 0 0,.slice none 0 0,.int .i64 0,.slice none 0 0,.slice none 0 0,.slice none 0 0,.int .i64 0,.slice none 0 0,.slice none 0 0,.slice none 0 0,.slice none 0 0,.int .i64 0,.slice none 0 0] 53)=w0 at*
 have y2:=H0.out.rb.c 2 _ rfl
 have yl:=H0.out.rb.lt
 go_wp2_with fail
 clear y2 yl
 refine (HC1.out _ H0.out.bel).mono ?_
 rintro e x1 ⟨A1,c1,rfl,hn,hls,hb⟩
 have HA:=H0.out
 have HB:=HA.up hb
 have H1:=Lh (show Cg w p r [.int .i64 s.ph,.int .i64 s.at_,.slice A1 s.lk.cs.length c1,.int .i64 s.lk.ph,.int .i64 s.lk.hv,.int .i64 s.lk.tr,.int .i64 s.lk.wt,.int .i64 s.sn.ph,.int .i64 s.sn.ep,.int .i64 s.sn.ck,.int .i64 s.sn.sp,.slice X.A s.sh.length X.c,.int .i64 s.dc,.slice X.Ad s.dl.length X.cd,.slice X.At s.st.length X.ct,.int .i64 s.dir.vn,.slice X.D.A s.dir.l.length X.D.c,.slice X.D.A2 s.dir.F.length X.D.c2,.slice X.o.A s.o.sh.length X.o.c,.int .i64 s.o.dc,.slice X.o.Ad s.o.dl.length X.o.cd,.slice X.o.Ao s.o.od.length X.o.co,.slice X.o.Ac s.o.ca.length X.o.cc,.slice X.o.Ae s.o.ed.length X.o.ce,.int .i64 s.lim,.slice X.Ac s.ca.length X.cc] [.int .i64 0,.int .i64 0,.slice none 0 0,.int .i64 0,.int .i64 0,.int .i64 0,.int .i64 0,.int .i64 0,.int .i64 0,.int .i64 0,.int .i64 0,.slice none 0 0,.int .i64 0,.slice none 0 0,.slice none 0 0,.int .i64 0,.slice none 0 0,.slice none 0 0,.slice none 0 0,.int .i64 0,.slice none 0 0,.slice none 0 0,.slice none 0 0,.slice none 0 0,.int .i64 0,.slice none 0 0] (s.rows { X with Al:=A1,cl:=c1 }) (x1.setCell ⟨p,2,none⟩ (.slice A1 s.lk.cs.length c1)) from HB.sto 2 [.slice A1 s.lk.cs.length c1] (by simp) rfl (se_rows_of (pr_new hls.rd hn HA.rb.lt HA.rr.lt) (fun x hx=>HB.rows x (by simp only [Se.rows,List.mem_cons,List.mem_append];exact .inr (.inl hx))) (HB.rows ⟨7,X.Ad,s.dl.length,lcs s.dl⟩ (by simp [Se.rows])) (HB.rows ⟨4,X.At,s.st.length,tcs s.st⟩ (by simp [Se.rows])) (HB.rows ⟨3,X.D.A,s.dir.l.length,scs s.dir.l⟩ (by simp [Se.rows])) (HB.rows ⟨1,X.D.A2,s.dir.F.length,ics s.dir.F⟩ (by simp [Se.rows])) (HB.rows ⟨7,X.Ac,s.ca.length,lcs s.ca⟩ (by simp [Se.rows])) (fun x hx=>HB.rows x (by simp only [Se.rows,List.mem_cons,List.mem_append];exact .inr (.inr (.inr hx))))))
 have N1:=Lh (show Nw w.heap.size A1/\Cp s.lk.cs.length c1 from ⟨nw_low hn HA.bel.size,hls.len.2⟩)
 clear HA
 have HU:=Lh HB
 clear HB hn hls hb H0 HC1
 have y2:=HU.out.rb.c 2 _ rfl
 have f2:=HU.out.rb.f 2
 have yl:=HU.out.rb.lt
 go_upto_region 2 with (fail)
 clear y2 f2 yl HU
 generalize x1.setCell ⟨p,2,none⟩ (.slice A1 s.lk.cs.length c1)=w1 at*
 have y11:=H1.out.rb.c 11 _ rfl
 have yl:=H1.out.rb.lt
 go_wp2_with fail
 clear y11 yl
 refine (HC2.out _ H1.out.bel).mono ?_
 rintro e x2 ⟨A2,c2,q2,rfl,hq,hown,hrr,hnn,hof,hqc,hb⟩
 have HA:=H1.out
 have HB:=HA.up hb
 have H2:=Lh (show Cg w p r [.int .i64 s.ph,.int .i64 s.at_,.slice A1 s.lk.cs.length c1,.int .i64 s.lk.ph,.int .i64 s.lk.hv,.int .i64 s.lk.tr,.int .i64 s.lk.wt,.int .i64 s.sn.ph,.int .i64 s.sn.ep,.int .i64 s.sn.ck,.int .i64 s.sn.sp,.slice A2 s.sh.length c2,.int .i64 s.dc,.slice X.Ad s.dl.length X.cd,.slice X.At s.st.length X.ct,.int .i64 s.dir.vn,.slice X.D.A s.dir.l.length X.D.c,.slice X.D.A2 s.dir.F.length X.D.c2,.slice X.o.A s.o.sh.length X.o.c,.int .i64 s.o.dc,.slice X.o.Ad s.o.dl.length X.o.cd,.slice X.o.Ao s.o.od.length X.o.co,.slice X.o.Ac s.o.ca.length X.o.cc,.slice X.o.Ae s.o.ed.length X.o.ce,.int .i64 s.lim,.slice X.Ac s.ca.length X.cc] [.int .i64 0,.int .i64 0,.slice none 0 0,.int .i64 0,.int .i64 0,.int .i64 0,.int .i64 0,.int .i64 0,.int .i64 0,.int .i64 0,.int .i64 0,.slice none 0 0,.int .i64 0,.slice none 0 0,.slice none 0 0,.int .i64 0,.slice none 0 0,.slice none 0 0,.slice none 0 0,.int .i64 0,.slice none 0 0,.slice none 0 0,.slice none 0 0,.slice none 0 0,.int .i64 0,.slice none 0 0] (s.rows { X with Al:=A1,cl:=c1,A:=A2,c:=c2,q:=q2 }) (x2.setCell ⟨p,11,none⟩ (.slice A2 s.sh.length c2)) from HB.sto 11 [.slice A2 s.sh.length c2] (by simp) rfl (se_rows_of (HB.rows ⟨1,({ X with Al:=A1,cl:=c1 }:Sex).Al,s.lk.cs.length,ics s.lk.cs⟩ (by simp [Se.rows])) (pr_hrows hq hown hrr hnn HA.rb.lt HA.rr.lt) (HB.rows ⟨7,({ X with Al:=A1,cl:=c1 }:Sex).Ad,s.dl.length,lcs s.dl⟩ (by simp [Se.rows])) (HB.rows ⟨4,({ X with Al:=A1,cl:=c1 }:Sex).At,s.st.length,tcs s.st⟩ (by simp [Se.rows])) (HB.rows ⟨3,({ X with Al:=A1,cl:=c1 }:Sex).D.A,s.dir.l.length,scs s.dir.l⟩ (by simp [Se.rows])) (HB.rows ⟨1,({ X with Al:=A1,cl:=c1 }:Sex).D.A2,s.dir.F.length,ics s.dir.F⟩ (by simp [Se.rows])) (HB.rows ⟨7,({ X with Al:=A1,cl:=c1 }:Sex).Ac,s.ca.length,lcs s.ca⟩ (by simp [Se.rows])) (fun x hx=>HB.rows x (by simp only [Se.rows,List.mem_cons,List.mem_append];exact .inr (.inr (.inr hx))))))
 have N2:=Lh (show RNw (hRows A2 q2) w.heap.size/\q2.map Hs.S=s.sh/\(∀ h∈q2,ShCap h.S h.D)/\Cp s.sh.length c2 from ⟨hrows_of (nw_low (nwv_of (nwv_own hown (nLR _))) HA.bel.size) (hnn.low HA.bel.size),hq,hqc,own_cap hown⟩)
 have F2:=Lh (show ∀ b,(Value.slice A2 s.sh.length c2).ownBlock=some b->ROff (rQ q2) b/\OffB b s.lk.cs.length A1 from fun b e=>⟨hof b e,rd_off (HA.rows ⟨1,A1,s.lk.cs.length,ics s.lk.cs⟩ (by simp [Se.rows])).1 (hown.lt b e).1⟩)
 have O2:=Lh (show World.ownsRow (x2.setCell ⟨p,11,none⟩ (.slice A2 s.sh.length c2)) (r+1) 72 8 (.slice A2 s.sh.length c2) s.sh.length (hcs q2) from own_stN (p:=p) (vs:=[.slice A2 s.sh.length c2]) (own_low15 hown (show r+1<=_ from HA.rr.lt)) (by have:=HA.ne;omega) 11)
 clear HA
 have HU:=Lh HB
 clear HB hq hown hrr hnn hof hqc hb H1 HC2
 have y11:=HU.out.rb.c 11 _ rfl
 have f11:=HU.out.rb.f 11
 have yl:=HU.out.rb.lt
 go_upto_region 3 with (fail)
 clear y11 f11 yl HU
 generalize x2.setCell ⟨p,11,none⟩ (.slice A2 s.sh.length c2)=w2 at*
 have y12:=H2.out.rb.c 12 _ rfl
 have y13:=H2.out.rb.c 13 _ rfl
 have yl:=H2.out.rb.lt
 go_wp2_with fail
 clear y12 y13 yl
 refine (HC3.out _ H2.out.bel).mono ?_
 rintro e x3 ⟨A3,c3,rfl,hn,hls,hb⟩
 have HA:=H2.out
 have HB:=HA.up hb
 have H3:=Lh (show Cg w p r [.int .i64 s.ph,.int .i64 s.at_,.slice A1 s.lk.cs.length c1,.int .i64 s.lk.ph,.int .i64 s.lk.hv,.int .i64 s.lk.tr,.int .i64 s.lk.wt,.int .i64 s.sn.ph,.int .i64 s.sn.ep,.int .i64 s.sn.ck,.int .i64 s.sn.sp,.slice A2 s.sh.length c2,.int .i64 s.dc,.slice A3 s.dl.length c3,.slice X.At s.st.length X.ct,.int .i64 s.dir.vn,.slice X.D.A s.dir.l.length X.D.c,.slice X.D.A2 s.dir.F.length X.D.c2,.slice X.o.A s.o.sh.length X.o.c,.int .i64 s.o.dc,.slice X.o.Ad s.o.dl.length X.o.cd,.slice X.o.Ao s.o.od.length X.o.co,.slice X.o.Ac s.o.ca.length X.o.cc,.slice X.o.Ae s.o.ed.length X.o.ce,.int .i64 s.lim,.slice X.Ac s.ca.length X.cc] [.int .i64 0,.int .i64 0,.slice none 0 0,.int .i64 0,.int .i64 0,.int .i64 0,.int .i64 0,.int .i64 0,.int .i64 0,.int .i64 0,.int .i64 0,.slice none 0 0,.int .i64 0,.slice none 0 0,.slice none 0 0,.int .i64 0,.slice none 0 0,.slice none 0 0,.slice none 0 0,.int .i64 0,.slice none 0 0,.slice none 0 0,.slice none 0 0,.slice none 0 0,.int .i64 0,.slice none 0 0] (s.rows { X with Al:=A1,cl:=c1,A:=A2,c:=c2,q:=q2,Ad:=A3,cd:=c3 }) ((x3.setCell ⟨p,12,none⟩ (.int .i64 s.dc)).setCell ⟨p,13,none⟩ (.slice A3 s.dl.length c3)) from HB.sto 12 [.int .i64 s.dc,.slice A3 s.dl.length c3] (by simp) rfl (se_rows_of (HB.rows ⟨1,({ X with Al:=A1,cl:=c1,A:=A2,c:=c2,q:=q2 }:Sex).Al,s.lk.cs.length,ics s.lk.cs⟩ (by simp [Se.rows])) (fun x hx=>HB.rows x (by simp only [Se.rows,List.mem_cons,List.mem_append];exact .inr (.inl hx))) (pr_new hls.rd hn HA.rb.lt HA.rr.lt) (HB.rows ⟨4,({ X with Al:=A1,cl:=c1,A:=A2,c:=c2,q:=q2 }:Sex).At,s.st.length,tcs s.st⟩ (by simp [Se.rows])) (HB.rows ⟨3,({ X with Al:=A1,cl:=c1,A:=A2,c:=c2,q:=q2 }:Sex).D.A,s.dir.l.length,scs s.dir.l⟩ (by simp [Se.rows])) (HB.rows ⟨1,({ X with Al:=A1,cl:=c1,A:=A2,c:=c2,q:=q2 }:Sex).D.A2,s.dir.F.length,ics s.dir.F⟩ (by simp [Se.rows])) (HB.rows ⟨7,({ X with Al:=A1,cl:=c1,A:=A2,c:=c2,q:=q2 }:Sex).Ac,s.ca.length,lcs s.ca⟩ (by simp [Se.rows])) (fun x hx=>HB.rows x (by simp only [Se.rows,List.mem_cons,List.mem_append];exact .inr (.inr (.inr hx))))))
 have N3:=Lh (show (Nw w.heap.size A3/\Cp s.dl.length c3)/\∀ b,(Value.slice A2 s.sh.length c2).ownBlock=some b->OffB b s.dl.length A3 from ⟨⟨nw_low hn HA.bel.size,hls.len.2⟩,fun b e=>offb_nw hn (O2.out.lt b e).2⟩)
 replace O2:=Lh (show World.ownsRow ((x3.setCell ⟨p,12,none⟩ (.int .i64 s.dc)).setCell ⟨p,13,none⟩ (.slice A3 s.dl.length c3)) (r+1) 72 8 (.slice A2 s.sh.length c2) s.sh.length (hcs q2) from own_stN (p:=p) (vs:=[.int .i64 s.dc,.slice A3 s.dl.length c3]) (own_up10 O2.out hb) (by have:=HA.ne;omega) 12)
 clear HA
 have HU:=Lh HB
 clear HB hn hls hb H2 HC3
 have y12:=HU.out.rb.c 12 _ rfl
 have f12:=HU.out.rb.f 12
 have y13:=HU.out.rb.c 13 _ rfl
 have f13:=HU.out.rb.f 13
 have yl:=HU.out.rb.lt
 go_upto_region 4 with (fail)
 clear y12 f12 y13 f13 yl HU
 generalize (x3.setCell ⟨p,12,none⟩ (.int .i64 s.dc)).setCell ⟨p,13,none⟩ (.slice A3 s.dl.length c3)=w3 at*
 have y14:=H3.out.rb.c 14 _ rfl
 have yl:=H3.out.rb.lt
 go_wp2_with fail
 clear y14 yl
 refine (HC4.out _ H3.out.bel).mono ?_
 rintro e x4 ⟨v4,rfl,hown,hb⟩
 obtain ⟨A4,c4,rfl⟩:=own_form hown
 have HA:=H3.out
 have HB:=HA.up hb
 have H4:=Lh (show Cg w p r [.int .i64 s.ph,.int .i64 s.at_,.slice A1 s.lk.cs.length c1,.int .i64 s.lk.ph,.int .i64 s.lk.hv,.int .i64 s.lk.tr,.int .i64 s.lk.wt,.int .i64 s.sn.ph,.int .i64 s.sn.ep,.int .i64 s.sn.ck,.int .i64 s.sn.sp,.slice A2 s.sh.length c2,.int .i64 s.dc,.slice A3 s.dl.length c3,.slice A4 s.st.length c4,.int .i64 s.dir.vn,.slice X.D.A s.dir.l.length X.D.c,.slice X.D.A2 s.dir.F.length X.D.c2,.slice X.o.A s.o.sh.length X.o.c,.int .i64 s.o.dc,.slice X.o.Ad s.o.dl.length X.o.cd,.slice X.o.Ao s.o.od.length X.o.co,.slice X.o.Ac s.o.ca.length X.o.cc,.slice X.o.Ae s.o.ed.length X.o.ce,.int .i64 s.lim,.slice X.Ac s.ca.length X.cc] [.int .i64 0,.int .i64 0,.slice none 0 0,.int .i64 0,.int .i64 0,.int .i64 0,.int .i64 0,.int .i64 0,.int .i64 0,.int .i64 0,.int .i64 0,.slice none 0 0,.int .i64 0,.slice none 0 0,.slice none 0 0,.int .i64 0,.slice none 0 0,.slice none 0 0,.slice none 0 0,.int .i64 0,.slice none 0 0,.slice none 0 0,.slice none 0 0,.slice none 0 0,.int .i64 0,.slice none 0 0] (s.rows { X with Al:=A1,cl:=c1,A:=A2,c:=c2,q:=q2,Ad:=A3,cd:=c3,At:=A4,ct:=c4 }) (x4.setCell ⟨p,14,none⟩ (.slice A4 s.st.length c4)) from HB.sto 14 [.slice A4 s.st.length c4] (by simp) rfl (se_rows_of (HB.rows ⟨1,({ X with Al:=A1,cl:=c1,A:=A2,c:=c2,q:=q2,Ad:=A3,cd:=c3 }:Sex).Al,s.lk.cs.length,ics s.lk.cs⟩ (by simp [Se.rows])) (fun x hx=>HB.rows x (by simp only [Se.rows,List.mem_cons,List.mem_append];exact .inr (.inl hx))) (HB.rows ⟨7,({ X with Al:=A1,cl:=c1,A:=A2,c:=c2,q:=q2,Ad:=A3,cd:=c3 }:Sex).Ad,s.dl.length,lcs s.dl⟩ (by simp [Se.rows])) (pr_new (Rd.of_own hown) (nwv_of (nwv_own hown (nLR _))) HA.rb.lt HA.rr.lt) (HB.rows ⟨3,({ X with Al:=A1,cl:=c1,A:=A2,c:=c2,q:=q2,Ad:=A3,cd:=c3 }:Sex).D.A,s.dir.l.length,scs s.dir.l⟩ (by simp [Se.rows])) (HB.rows ⟨1,({ X with Al:=A1,cl:=c1,A:=A2,c:=c2,q:=q2,Ad:=A3,cd:=c3 }:Sex).D.A2,s.dir.F.length,ics s.dir.F⟩ (by simp [Se.rows])) (HB.rows ⟨7,({ X with Al:=A1,cl:=c1,A:=A2,c:=c2,q:=q2,Ad:=A3,cd:=c3 }:Sex).Ac,s.ca.length,lcs s.ca⟩ (by simp [Se.rows])) (fun x hx=>HB.rows x (by simp only [Se.rows,List.mem_cons,List.mem_append];exact .inr (.inr (.inr hx))))))
 have N4:=Lh (show (Nw w.heap.size A4/\Cp s.st.length c4)/\∀ b,(Value.slice A2 s.sh.length c2).ownBlock=some b->OffB b s.st.length A4 from ⟨⟨nw_low (nwv_of (nwv_own hown (nLR _))) HA.bel.size,own_cap hown⟩,fun b e=>offb_nw (nwv_of (nwv_own hown (nLR _))) (O2.out.lt b e).2⟩)
 have F4:=Lh (show ∀ b,(Value.slice A4 s.st.length c4).ownBlock=some b->OffB b s.lk.cs.length A1/\ROff (hRows A2 q2) b/\OffB b s.dl.length A3 from fun b e=>⟨rd_off (HA.rows ⟨1,A1,s.lk.cs.length,ics s.lk.cs⟩ (by simp [Se.rows])).1 (hown.lt b e).1,fun x hx=>rd_off (HA.rows x (by simp only [Se.rows,List.mem_cons,List.mem_append];exact .inr (.inl hx))).1 (hown.lt b e).1,rd_off (HA.rows ⟨7,A3,s.dl.length,lcs s.dl⟩ (by simp [Se.rows])).1 (hown.lt b e).1⟩)
 have O4:=Lh (show World.ownsRow (x4.setCell ⟨p,14,none⟩ (.slice A4 s.st.length c4)) (r+1) 63 4 (.slice A4 s.st.length c4) s.st.length (tcs s.st) from own_stN (p:=p) (vs:=[.slice A4 s.st.length c4]) (own_low15 hown (show r+1<=_ from HA.rr.lt)) (by have:=HA.ne;omega) 14)
 replace O2:=Lh (show World.ownsRow (x4.setCell ⟨p,14,none⟩ (.slice A4 s.st.length c4)) (r+1) 72 8 (.slice A2 s.sh.length c2) s.sh.length (hcs q2) from own_stN (p:=p) (vs:=[.slice A4 s.st.length c4]) (own_up10 O2.out hb) (by have:=HA.ne;omega) 14)
 clear HA
 have HU:=Lh HB
 clear HB hown hb H3 HC4
 have y14:=HU.out.rb.c 14 _ rfl
 have f14:=HU.out.rb.f 14
 have yl:=HU.out.rb.lt
 go_upto_region 5 with (fail)
 clear y14 f14 yl HU
 generalize x4.setCell ⟨p,14,none⟩ (.slice A4 s.st.length c4)=w4 at*
 have y15:=H4.out.rb.c 15 _ rfl
 have y16:=H4.out.rb.c 16 _ rfl
 have y17:=H4.out.rb.c 17 _ rfl
 have yl:=H4.out.rb.lt
 go_wp2_with fail
 clear y15 y16 y17 yl
 refine (HC5.out _ H4.out.bel).mono ?_
 rintro e x5 ⟨D5,rfl,hn,hdr,hb⟩
 have HA:=H4.out
 have HB:=HA.up hb
 have H5:=Lh (show Cg w p r [.int .i64 s.ph,.int .i64 s.at_,.slice A1 s.lk.cs.length c1,.int .i64 s.lk.ph,.int .i64 s.lk.hv,.int .i64 s.lk.tr,.int .i64 s.lk.wt,.int .i64 s.sn.ph,.int .i64 s.sn.ep,.int .i64 s.sn.ck,.int .i64 s.sn.sp,.slice A2 s.sh.length c2,.int .i64 s.dc,.slice A3 s.dl.length c3,.slice A4 s.st.length c4,.int .i64 s.dir.vn,.slice D5.A s.dir.l.length D5.c,.slice D5.A2 s.dir.F.length D5.c2,.slice X.o.A s.o.sh.length X.o.c,.int .i64 s.o.dc,.slice X.o.Ad s.o.dl.length X.o.cd,.slice X.o.Ao s.o.od.length X.o.co,.slice X.o.Ac s.o.ca.length X.o.cc,.slice X.o.Ae s.o.ed.length X.o.ce,.int .i64 s.lim,.slice X.Ac s.ca.length X.cc] [.int .i64 0,.int .i64 0,.slice none 0 0,.int .i64 0,.int .i64 0,.int .i64 0,.int .i64 0,.int .i64 0,.int .i64 0,.int .i64 0,.int .i64 0,.slice none 0 0,.int .i64 0,.slice none 0 0,.slice none 0 0,.int .i64 0,.slice none 0 0,.slice none 0 0,.slice none 0 0,.int .i64 0,.slice none 0 0,.slice none 0 0,.slice none 0 0,.slice none 0 0,.int .i64 0,.slice none 0 0] (s.rows { X with Al:=A1,cl:=c1,A:=A2,c:=c2,q:=q2,Ad:=A3,cd:=c3,At:=A4,ct:=c4,D:=D5 }) (((x5.setCell ⟨p,15,none⟩ (.int .i64 s.dir.vn)).setCell ⟨p,16,none⟩ (.slice D5.A s.dir.l.length D5.c)).setCell ⟨p,17,none⟩ (.slice D5.A2 s.dir.F.length D5.c2)) from HB.sto 15 [.int .i64 s.dir.vn,.slice D5.A s.dir.l.length D5.c,.slice D5.A2 s.dir.F.length D5.c2] (by simp) rfl (se_rows_of (HB.rows ⟨1,({ X with Al:=A1,cl:=c1,A:=A2,c:=c2,q:=q2,Ad:=A3,cd:=c3,At:=A4,ct:=c4 }:Sex).Al,s.lk.cs.length,ics s.lk.cs⟩ (by simp [Se.rows])) (fun x hx=>HB.rows x (by simp only [Se.rows,List.mem_cons,List.mem_append];exact .inr (.inl hx))) (HB.rows ⟨7,({ X with Al:=A1,cl:=c1,A:=A2,c:=c2,q:=q2,Ad:=A3,cd:=c3,At:=A4,ct:=c4 }:Sex).Ad,s.dl.length,lcs s.dl⟩ (by simp [Se.rows])) (HB.rows ⟨4,({ X with Al:=A1,cl:=c1,A:=A2,c:=c2,q:=q2,Ad:=A3,cd:=c3,At:=A4,ct:=c4 }:Sex).At,s.st.length,tcs s.st⟩ (by simp [Se.rows])) (pr_new hdr.pl.rd hn.1 HA.rb.lt HA.rr.lt) (pr_new hdr.fl.rd hn.2 HA.rb.lt HA.rr.lt) (HB.rows ⟨7,({ X with Al:=A1,cl:=c1,A:=A2,c:=c2,q:=q2,Ad:=A3,cd:=c3,At:=A4,ct:=c4 }:Sex).Ac,s.ca.length,lcs s.ca⟩ (by simp [Se.rows])) (fun x hx=>HB.rows x (by simp only [Se.rows,List.mem_cons,List.mem_append];exact .inr (.inr (.inr hx))))))
 have N5:=Lh (show ((Nw w.heap.size D5.A/\Nw w.heap.size D5.A2)/\Cp s.dir.l.length D5.c/\Cp s.dir.F.length D5.c2)/\(∀ b,(Value.slice A2 s.sh.length c2).ownBlock=some b->OffB b s.dir.l.length D5.A/\OffB b s.dir.F.length D5.A2)/\(∀ b,(Value.slice A4 s.st.length c4).ownBlock=some b->OffB b s.dir.l.length D5.A/\OffB b s.dir.F.length D5.A2) from ⟨⟨⟨nw_low hn.1 HA.bel.size,nw_low hn.2 HA.bel.size⟩,hdr.pl.len.2,hdr.fl.len.2⟩,fun b e=>⟨offb_nw hn.1 (O2.out.lt b e).2,offb_nw hn.2 (O2.out.lt b e).2⟩,fun b e=>⟨offb_nw hn.1 (O4.out.lt b e).2,offb_nw hn.2 (O4.out.lt b e).2⟩⟩)
 replace O2:=Lh (show World.ownsRow (((x5.setCell ⟨p,15,none⟩ (.int .i64 s.dir.vn)).setCell ⟨p,16,none⟩ (.slice D5.A s.dir.l.length D5.c)).setCell ⟨p,17,none⟩ (.slice D5.A2 s.dir.F.length D5.c2)) (r+1) 72 8 (.slice A2 s.sh.length c2) s.sh.length (hcs q2) from own_stN (p:=p) (vs:=[.int .i64 s.dir.vn,.slice D5.A s.dir.l.length D5.c,.slice D5.A2 s.dir.F.length D5.c2]) (own_up10 O2.out hb) (by have:=HA.ne;omega) 15)
 replace O4:=Lh (show World.ownsRow (((x5.setCell ⟨p,15,none⟩ (.int .i64 s.dir.vn)).setCell ⟨p,16,none⟩ (.slice D5.A s.dir.l.length D5.c)).setCell ⟨p,17,none⟩ (.slice D5.A2 s.dir.F.length D5.c2)) (r+1) 63 4 (.slice A4 s.st.length c4) s.st.length (tcs s.st) from own_stN (p:=p) (vs:=[.int .i64 s.dir.vn,.slice D5.A s.dir.l.length D5.c,.slice D5.A2 s.dir.F.length D5.c2]) (own_up10 O4.out hb) (by have:=HA.ne;omega) 15)
 clear HA
 have HU:=Lh HB
 clear HB hn hdr hb H4 HC5
 have y15:=HU.out.rb.c 15 _ rfl
 have f15:=HU.out.rb.f 15
 have y16:=HU.out.rb.c 16 _ rfl
 have f16:=HU.out.rb.f 16
 have y17:=HU.out.rb.c 17 _ rfl
 have f17:=HU.out.rb.f 17
 have yl:=HU.out.rb.lt
 go_upto_region 6 with (fail)
 clear y15 f15 y16 f16 y17 f17 yl HU
 generalize ((x5.setCell ⟨p,15,none⟩ (.int .i64 s.dir.vn)).setCell ⟨p,16,none⟩ (.slice D5.A s.dir.l.length D5.c)).setCell ⟨p,17,none⟩ (.slice D5.A2 s.dir.F.length D5.c2)=w5 at*
 have y18:=H5.out.rb.c 18 _ rfl
 have y19:=H5.out.rb.c 19 _ rfl
 have y20:=H5.out.rb.c 20 _ rfl
 have y21:=H5.out.rb.c 21 _ rfl
 have y22:=H5.out.rb.c 22 _ rfl
 have y23:=H5.out.rb.c 23 _ rfl
 have yl:=H5.out.rb.lt
 go_wp2_with fail
 clear y18 y19 y20 y21 y22 y23 yl
 refine (HC6.out _ H5.out.bel).mono ?_
 rintro e x6 ⟨O6,rfl,hn,hou,hb⟩
 have HA:=H5.out
 have HB:=HA.up hb
 have H6:=Lh (show Cg w p r [.int .i64 s.ph,.int .i64 s.at_,.slice A1 s.lk.cs.length c1,.int .i64 s.lk.ph,.int .i64 s.lk.hv,.int .i64 s.lk.tr,.int .i64 s.lk.wt,.int .i64 s.sn.ph,.int .i64 s.sn.ep,.int .i64 s.sn.ck,.int .i64 s.sn.sp,.slice A2 s.sh.length c2,.int .i64 s.dc,.slice A3 s.dl.length c3,.slice A4 s.st.length c4,.int .i64 s.dir.vn,.slice D5.A s.dir.l.length D5.c,.slice D5.A2 s.dir.F.length D5.c2,.slice O6.A s.o.sh.length O6.c,.int .i64 s.o.dc,.slice O6.Ad s.o.dl.length O6.cd,.slice O6.Ao s.o.od.length O6.co,.slice O6.Ac s.o.ca.length O6.cc,.slice O6.Ae s.o.ed.length O6.ce,.int .i64 s.lim,.slice X.Ac s.ca.length X.cc] [.int .i64 0,.int .i64 0,.slice none 0 0,.int .i64 0,.int .i64 0,.int .i64 0,.int .i64 0,.int .i64 0,.int .i64 0,.int .i64 0,.int .i64 0,.slice none 0 0,.int .i64 0,.slice none 0 0,.slice none 0 0,.int .i64 0,.slice none 0 0,.slice none 0 0,.slice none 0 0,.int .i64 0,.slice none 0 0,.slice none 0 0,.slice none 0 0,.slice none 0 0,.int .i64 0,.slice none 0 0] (s.rows { X with Al:=A1,cl:=c1,A:=A2,c:=c2,q:=q2,Ad:=A3,cd:=c3,At:=A4,ct:=c4,D:=D5,o:=O6 }) ((((((x6.setCell ⟨p,18,none⟩ (.slice O6.A s.o.sh.length O6.c)).setCell ⟨p,19,none⟩ (.int .i64 s.o.dc)).setCell ⟨p,20,none⟩ (.slice O6.Ad s.o.dl.length O6.cd)).setCell ⟨p,21,none⟩ (.slice O6.Ao s.o.od.length O6.co)).setCell ⟨p,22,none⟩ (.slice O6.Ac s.o.ca.length O6.cc)).setCell ⟨p,23,none⟩ (.slice O6.Ae s.o.ed.length O6.ce)) from HB.sto 18 [.slice O6.A s.o.sh.length O6.c,.int .i64 s.o.dc,.slice O6.Ad s.o.dl.length O6.cd,.slice O6.Ao s.o.od.length O6.co,.slice O6.Ac s.o.ca.length O6.cc,.slice O6.Ae s.o.ed.length O6.ce] (by simp) rfl (se_rows_of (HB.rows ⟨1,({ X with Al:=A1,cl:=c1,A:=A2,c:=c2,q:=q2,Ad:=A3,cd:=c3,At:=A4,ct:=c4,D:=D5 }:Sex).Al,s.lk.cs.length,ics s.lk.cs⟩ (by simp [Se.rows])) (fun x hx=>HB.rows x (by simp only [Se.rows,List.mem_cons,List.mem_append];exact .inr (.inl hx))) (HB.rows ⟨7,({ X with Al:=A1,cl:=c1,A:=A2,c:=c2,q:=q2,Ad:=A3,cd:=c3,At:=A4,ct:=c4,D:=D5 }:Sex).Ad,s.dl.length,lcs s.dl⟩ (by simp [Se.rows])) (HB.rows ⟨4,({ X with Al:=A1,cl:=c1,A:=A2,c:=c2,q:=q2,Ad:=A3,cd:=c3,At:=A4,ct:=c4,D:=D5 }:Sex).At,s.st.length,tcs s.st⟩ (by simp [Se.rows])) (HB.rows ⟨3,({ X with Al:=A1,cl:=c1,A:=A2,c:=c2,q:=q2,Ad:=A3,cd:=c3,At:=A4,ct:=c4,D:=D5 }:Sex).D.A,s.dir.l.length,scs s.dir.l⟩ (by simp [Se.rows])) (HB.rows ⟨1,({ X with Al:=A1,cl:=c1,A:=A2,c:=c2,q:=q2,Ad:=A3,cd:=c3,At:=A4,ct:=c4,D:=D5 }:Sex).D.A2,s.dir.F.length,ics s.dir.F⟩ (by simp [Se.rows])) (HB.rows ⟨7,({ X with Al:=A1,cl:=c1,A:=A2,c:=c2,q:=q2,Ad:=A3,cd:=c3,At:=A4,ct:=c4,D:=D5 }:Sex).Ac,s.ca.length,lcs s.ca⟩ (by simp [Se.rows])) (fun x hx=>⟨hou.r x hx,offb_nw (hn x hx) HA.rb.lt,offb_nw (hn x hx) HA.rr.lt⟩)))
 have N6:=Lh (show (RNw (s.o.rows O6) w.heap.size/\O6.Ok s.o)/\(∀ b,(Value.slice A2 s.sh.length c2).ownBlock=some b->ROff (s.o.rows O6) b)/\(∀ b,(Value.slice A4 s.st.length c4).ownBlock=some b->ROff (s.o.rows O6) b) from ⟨⟨hn.low HA.bel.size,hou.ok⟩,fun b e=>hn.off (O2.out.lt b e).2,fun b e=>hn.off (O4.out.lt b e).2⟩)
 replace O2:=Lh (show World.ownsRow ((((((x6.setCell ⟨p,18,none⟩ (.slice O6.A s.o.sh.length O6.c)).setCell ⟨p,19,none⟩ (.int .i64 s.o.dc)).setCell ⟨p,20,none⟩ (.slice O6.Ad s.o.dl.length O6.cd)).setCell ⟨p,21,none⟩ (.slice O6.Ao s.o.od.length O6.co)).setCell ⟨p,22,none⟩ (.slice O6.Ac s.o.ca.length O6.cc)).setCell ⟨p,23,none⟩ (.slice O6.Ae s.o.ed.length O6.ce)) (r+1) 72 8 (.slice A2 s.sh.length c2) s.sh.length (hcs q2) from own_stN (p:=p) (vs:=[.slice O6.A s.o.sh.length O6.c,.int .i64 s.o.dc,.slice O6.Ad s.o.dl.length O6.cd,.slice O6.Ao s.o.od.length O6.co,.slice O6.Ac s.o.ca.length O6.cc,.slice O6.Ae s.o.ed.length O6.ce]) (own_up10 O2.out hb) (by have:=HA.ne;omega) 18)
 replace O4:=Lh (show World.ownsRow ((((((x6.setCell ⟨p,18,none⟩ (.slice O6.A s.o.sh.length O6.c)).setCell ⟨p,19,none⟩ (.int .i64 s.o.dc)).setCell ⟨p,20,none⟩ (.slice O6.Ad s.o.dl.length O6.cd)).setCell ⟨p,21,none⟩ (.slice O6.Ao s.o.od.length O6.co)).setCell ⟨p,22,none⟩ (.slice O6.Ac s.o.ca.length O6.cc)).setCell ⟨p,23,none⟩ (.slice O6.Ae s.o.ed.length O6.ce)) (r+1) 63 4 (.slice A4 s.st.length c4) s.st.length (tcs s.st) from own_stN (p:=p) (vs:=[.slice O6.A s.o.sh.length O6.c,.int .i64 s.o.dc,.slice O6.Ad s.o.dl.length O6.cd,.slice O6.Ao s.o.od.length O6.co,.slice O6.Ac s.o.ca.length O6.cc,.slice O6.Ae s.o.ed.length O6.ce]) (own_up10 O4.out hb) (by have:=HA.ne;omega) 18)
 clear HA
 have HU:=Lh HB
 clear HB hn hou hb H5 HC6
 have y18:=HU.out.rb.c 18 _ rfl
 have f18:=HU.out.rb.f 18
 have y19:=HU.out.rb.c 19 _ rfl
 have f19:=HU.out.rb.f 19
 have y20:=HU.out.rb.c 20 _ rfl
 have f20:=HU.out.rb.f 20
 have y21:=HU.out.rb.c 21 _ rfl
 have f21:=HU.out.rb.f 21
 have y22:=HU.out.rb.c 22 _ rfl
 have f22:=HU.out.rb.f 22
 have y23:=HU.out.rb.c 23 _ rfl
 have f23:=HU.out.rb.f 23
 have yl:=HU.out.rb.lt
 go_upto_region 7 with (fail)
 clear y18 f18 y19 f19 y20 f20 y21 f21 y22 f22 y23 f23 yl HU
 generalize (((((x6.setCell ⟨p,18,none⟩ (.slice O6.A s.o.sh.length O6.c)).setCell ⟨p,19,none⟩ (.int .i64 s.o.dc)).setCell ⟨p,20,none⟩ (.slice O6.Ad s.o.dl.length O6.cd)).setCell ⟨p,21,none⟩ (.slice O6.Ao s.o.od.length O6.co)).setCell ⟨p,22,none⟩ (.slice O6.Ac s.o.ca.length O6.cc)).setCell ⟨p,23,none⟩ (.slice O6.Ae s.o.ed.length O6.ce)=w6 at*
 have y25:=H6.out.rb.c 25 _ rfl
 have yl:=H6.out.rb.lt
 go_wp2_with fail
 clear y25 yl
 refine (HC7.out _ H6.out.bel).mono ?_
 rintro e x7 ⟨A7,c7,rfl,hn,hls,hb⟩
 have HA:=H6.out
 have HB:=HA.up hb
 have H7:=Lh (show Cg w p r [.int .i64 s.ph,.int .i64 s.at_,.slice A1 s.lk.cs.length c1,.int .i64 s.lk.ph,.int .i64 s.lk.hv,.int .i64 s.lk.tr,.int .i64 s.lk.wt,.int .i64 s.sn.ph,.int .i64 s.sn.ep,.int .i64 s.sn.ck,.int .i64 s.sn.sp,.slice A2 s.sh.length c2,.int .i64 s.dc,.slice A3 s.dl.length c3,.slice A4 s.st.length c4,.int .i64 s.dir.vn,.slice D5.A s.dir.l.length D5.c,.slice D5.A2 s.dir.F.length D5.c2,.slice O6.A s.o.sh.length O6.c,.int .i64 s.o.dc,.slice O6.Ad s.o.dl.length O6.cd,.slice O6.Ao s.o.od.length O6.co,.slice O6.Ac s.o.ca.length O6.cc,.slice O6.Ae s.o.ed.length O6.ce,.int .i64 s.lim,.slice A7 s.ca.length c7] [.int .i64 0,.int .i64 0,.slice none 0 0,.int .i64 0,.int .i64 0,.int .i64 0,.int .i64 0,.int .i64 0,.int .i64 0,.int .i64 0,.int .i64 0,.slice none 0 0,.int .i64 0,.slice none 0 0,.slice none 0 0,.int .i64 0,.slice none 0 0,.slice none 0 0,.slice none 0 0,.int .i64 0,.slice none 0 0,.slice none 0 0,.slice none 0 0,.slice none 0 0,.int .i64 0,.slice none 0 0] (s.rows { X with Al:=A1,cl:=c1,A:=A2,c:=c2,q:=q2,Ad:=A3,cd:=c3,At:=A4,ct:=c4,D:=D5,o:=O6,Ac:=A7,cc:=c7 }) (x7.setCell ⟨p,25,none⟩ (.slice A7 s.ca.length c7)) from HB.sto 25 [.slice A7 s.ca.length c7] (by simp) rfl (se_rows_of (HB.rows ⟨1,({ X with Al:=A1,cl:=c1,A:=A2,c:=c2,q:=q2,Ad:=A3,cd:=c3,At:=A4,ct:=c4,D:=D5,o:=O6 }:Sex).Al,s.lk.cs.length,ics s.lk.cs⟩ (by simp [Se.rows])) (fun x hx=>HB.rows x (by simp only [Se.rows,List.mem_cons,List.mem_append];exact .inr (.inl hx))) (HB.rows ⟨7,({ X with Al:=A1,cl:=c1,A:=A2,c:=c2,q:=q2,Ad:=A3,cd:=c3,At:=A4,ct:=c4,D:=D5,o:=O6 }:Sex).Ad,s.dl.length,lcs s.dl⟩ (by simp [Se.rows])) (HB.rows ⟨4,({ X with Al:=A1,cl:=c1,A:=A2,c:=c2,q:=q2,Ad:=A3,cd:=c3,At:=A4,ct:=c4,D:=D5,o:=O6 }:Sex).At,s.st.length,tcs s.st⟩ (by simp [Se.rows])) (HB.rows ⟨3,({ X with Al:=A1,cl:=c1,A:=A2,c:=c2,q:=q2,Ad:=A3,cd:=c3,At:=A4,ct:=c4,D:=D5,o:=O6 }:Sex).D.A,s.dir.l.length,scs s.dir.l⟩ (by simp [Se.rows])) (HB.rows ⟨1,({ X with Al:=A1,cl:=c1,A:=A2,c:=c2,q:=q2,Ad:=A3,cd:=c3,At:=A4,ct:=c4,D:=D5,o:=O6 }:Sex).D.A2,s.dir.F.length,ics s.dir.F⟩ (by simp [Se.rows])) (pr_new hls.rd hn HA.rb.lt HA.rr.lt) (fun x hx=>HB.rows x (by simp only [Se.rows,List.mem_cons,List.mem_append];exact .inr (.inr (.inr hx))))))
 have N7:=Lh (show (Nw w.heap.size A7/\Cp s.ca.length c7)/\(∀ b,(Value.slice A2 s.sh.length c2).ownBlock=some b->OffB b s.ca.length A7)/\(∀ b,(Value.slice A4 s.st.length c4).ownBlock=some b->OffB b s.ca.length A7) from ⟨⟨nw_low hn HA.bel.size,hls.len.2⟩,fun b e=>offb_nw hn (O2.out.lt b e).2,fun b e=>offb_nw hn (O4.out.lt b e).2⟩)
 replace O2:=Lh (show World.ownsRow (x7.setCell ⟨p,25,none⟩ (.slice A7 s.ca.length c7)) (r+1) 72 8 (.slice A2 s.sh.length c2) s.sh.length (hcs q2) from own_stN (p:=p) (vs:=[.slice A7 s.ca.length c7]) (own_up10 O2.out hb) (by have:=HA.ne;omega) 25)
 replace O4:=Lh (show World.ownsRow (x7.setCell ⟨p,25,none⟩ (.slice A7 s.ca.length c7)) (r+1) 63 4 (.slice A4 s.st.length c4) s.st.length (tcs s.st) from own_stN (p:=p) (vs:=[.slice A7 s.ca.length c7]) (own_up10 O4.out hb) (by have:=HA.ne;omega) 25)
 clear HA
 have HU:=Lh HB
 clear HB hn hls hb H6 HC7
 have y25:=HU.out.rb.c 25 _ rfl
 have f25:=HU.out.rb.f 25
 have yl:=HU.out.rb.lt
 go_upto_region 8 with (fail)
 clear y25 f25 yl HU
 generalize x7.setCell ⟨p,25,none⟩ (.slice A7 s.ca.length c7)=w7 at*
 refine wp_region_list ?_
 refine wpList_load_mid rfl _ _ rfl p 0 rfl [.int .i64 s.ph,.int .i64 s.at_,.slice A1 s.lk.cs.length c1,.int .i64 s.lk.ph,.int .i64 s.lk.hv,.int .i64 s.lk.tr,.int .i64 s.lk.wt,.int .i64 s.sn.ph,.int .i64 s.sn.ep,.int .i64 s.sn.ck,.int .i64 s.sn.sp,.slice A2 s.sh.length c2,.int .i64 s.dc,.slice A3 s.dl.length c3,.slice A4 s.st.length c4,.int .i64 s.dir.vn,.slice D5.A s.dir.l.length D5.c,.slice D5.A2 s.dir.F.length D5.c2,.slice O6.A s.o.sh.length O6.c,.int .i64 s.o.dc,.slice O6.Ad s.o.dl.length O6.cd,.slice O6.Ao s.o.od.length O6.co,.slice O6.Ac s.o.ca.length O6.cc,.slice O6.Ae s.o.ed.length O6.ce,.int .i64 s.lim,.slice A7 s.ca.length c7] _ H7.out.rb.range (Tryz.underlying53) rfl info_se ?_
 try simp only [Act.put,sIA,sIB,sIC]
 have HF:=Lh (show SV15 w s (.returned (.agg #[.int .i64 s.ph,.int .i64 s.at_,.slice A1 s.lk.cs.length c1,.int .i64 s.lk.ph,.int .i64 s.lk.hv,.int .i64 s.lk.tr,.int .i64 s.lk.wt,.int .i64 s.sn.ph,.int .i64 s.sn.ep,.int .i64 s.sn.ck,.int .i64 s.sn.sp,.slice A2 s.sh.length c2,.int .i64 s.dc,.slice A3 s.dl.length c3,.slice A4 s.st.length c4,.int .i64 s.dir.vn,.slice D5.A s.dir.l.length D5.c,.slice D5.A2 s.dir.F.length D5.c2,.slice O6.A s.o.sh.length O6.c,.int .i64 s.o.dc,.slice O6.Ad s.o.dl.length O6.cd,.slice O6.Ao s.o.od.length O6.co,.slice O6.Ac s.o.ca.length O6.cc,.slice O6.Ae s.o.ed.length O6.ce,.int .i64 s.lim,.slice A7 s.ca.length c7])) (stN15 w7 r 0 [.int .i64 s.ph,.int .i64 s.at_,.slice A1 s.lk.cs.length c1,.int .i64 s.lk.ph,.int .i64 s.lk.hv,.int .i64 s.lk.tr,.int .i64 s.lk.wt,.int .i64 s.sn.ph,.int .i64 s.sn.ep,.int .i64 s.sn.ck,.int .i64 s.sn.sp,.slice A2 s.sh.length c2,.int .i64 s.dc,.slice A3 s.dl.length c3,.slice A4 s.st.length c4,.int .i64 s.dir.vn,.slice D5.A s.dir.l.length D5.c,.slice D5.A2 s.dir.F.length D5.c2,.slice O6.A s.o.sh.length O6.c,.int .i64 s.o.dc,.slice O6.Ad s.o.dl.length O6.cd,.slice O6.Ao s.o.od.length O6.co,.slice O6.Ac s.o.ca.length O6.cc,.slice O6.Ae s.o.ed.length O6.ce,.int .i64 s.lim,.slice A7 s.ca.length c7]) from by
  have e:(stN15 w7 r 0 [.int .i64 s.ph,.int .i64 s.at_,.slice A1 s.lk.cs.length c1,.int .i64 s.lk.ph,.int .i64 s.lk.hv,.int .i64 s.lk.tr,.int .i64 s.lk.wt,.int .i64 s.sn.ph,.int .i64 s.sn.ep,.int .i64 s.sn.ck,.int .i64 s.sn.sp,.slice A2 s.sh.length c2,.int .i64 s.dc,.slice A3 s.dl.length c3,.slice A4 s.st.length c4,.int .i64 s.dir.vn,.slice D5.A s.dir.l.length D5.c,.slice D5.A2 s.dir.F.length D5.c2,.slice O6.A s.o.sh.length O6.c,.int .i64 s.o.dc,.slice O6.Ad s.o.dl.length O6.cd,.slice O6.Ao s.o.od.length O6.co,.slice O6.Ac s.o.ca.length O6.cc,.slice O6.Ae s.o.ed.length O6.ce,.int .i64 s.lim,.slice A7 s.ca.length c7]).heap.size=w7.heap.size:=stN15_size 0
  have hr1:w.heap.size<=r:=by have:=H7.out.ne;omega
  refine ⟨({ X with Al:=A1,cl:=c1,A:=A2,c:=c2,q:=q2,Ad:=A3,cd:=c3,At:=A4,ct:=c4,D:=D5,o:=O6,Ac:=A7,cc:=c7 }:Sex),rfl,⟨se_rows_of N1.out.1 N2.out.1 N3.out.1.1 N4.out.1.1 N5.out.1.1.1 N5.out.1.1.2 N7.out.1.1 N6.out.1.1,⟨?_,⟨N2.out.2.1,N2.out.2.2.1,⟨N1.out.2,N2.out.2.2.2,N3.out.1.2,N4.out.1.2,N5.out.1.2.1,N5.out.1.2.2,N7.out.1.2⟩,N6.out.1.2⟩⟩,?_,fun b e=>?_,?_,fun b e=>?_⟩,stN15_below H7.out.bel hr1 0⟩
  ·rw [e]
   exact fun x hx=>(H7.out.rows x hx).1.stN15 (H7.out.rows x hx).2.2
  ·exact own_low15 (own_stN O4.out (Nat.lt_succ_self r) 0) (by omega)
  ·exact se_rows_of (s:=s.no) (X:=(({ X with Al:=A1,cl:=c1,A:=A2,c:=c2,q:=q2,Ad:=A3,cd:=c3,At:=A4,ct:=c4,D:=D5,o:=O6,Ac:=A7,cc:=c7 }:Sex)).no) (F4.out b e).1 (F4.out b e).2.1 (F4.out b e).2.2 (offb_0 _ _) (N5.out.2.2 b e).1 (N5.out.2.2 b e).2 (N7.out.2.2 b e) (N6.out.2.2 b e)
  ·exact own_low15 (own_stN O2.out (Nat.lt_succ_self r) 0) (by omega)
  ·refine ⟨se_rows_of (s:=s.nh) (X:=(({ X with Al:=A1,cl:=c1,A:=A2,c:=c2,q:=q2,Ad:=A3,cd:=c3,At:=A4,ct:=c4,D:=D5,o:=O6,Ac:=A7,cc:=c7 }:Sex)).nh) (F2.out b e).2 (fun x hx=>?_) (N3.out.2 b e) (N4.out.2 b e) (N5.out.2.1 b e).1 (N5.out.2.1 b e).2 (N7.out.2.1 b e) (N6.out.2.1 b e),(F2.out b e).1⟩
   simp only [Sex.nh,hRows,hcs,List.flatMap_nil,List.mem_cons,List.not_mem_nil,or_false] at hx
   subst hx
   exact offb_0 _ _)
 refine wpList_store_rb rfl _ _ _ rfl r [.int .i64 0,.int .i64 0,.slice none 0 0,.int .i64 0,.int .i64 0,.int .i64 0,.int .i64 0,.int .i64 0,.int .i64 0,.int .i64 0,.int .i64 0,.slice none 0 0,.int .i64 0,.slice none 0 0,.slice none 0 0,.int .i64 0,.slice none 0 0,.slice none 0 0,.slice none 0 0,.int .i64 0,.slice none 0 0,.slice none 0 0,.slice none 0 0,.slice none 0 0,.int .i64 0,.slice none 0 0] [.int .i64 s.ph,.int .i64 s.at_,.slice A1 s.lk.cs.length c1,.int .i64 s.lk.ph,.int .i64 s.lk.hv,.int .i64 s.lk.tr,.int .i64 s.lk.wt,.int .i64 s.sn.ph,.int .i64 s.sn.ep,.int .i64 s.sn.ck,.int .i64 s.sn.sp,.slice A2 s.sh.length c2,.int .i64 s.dc,.slice A3 s.dl.length c3,.slice A4 s.st.length c4,.int .i64 s.dir.vn,.slice D5.A s.dir.l.length D5.c,.slice D5.A2 s.dir.F.length D5.c2,.slice O6.A s.o.sh.length O6.c,.int .i64 s.o.dc,.slice O6.Ad s.o.dl.length O6.cd,.slice O6.Ao s.o.od.length O6.co,.slice O6.Ac s.o.ca.length O6.cc,.slice O6.Ae s.o.ed.length O6.ce,.int .i64 s.lim,.slice A7 s.ca.length c7] rfl rfl H7.out.rr rfl info_se (by kernel_rfl) ?_
 intro wf hwf hrb
 have HRB:=Lh hrb
 rw [<-hwf] at HF
 clear hwf hrb H7 N1 N2 N3 N4 N5 N6 N7 F2 F4 O2 O4 HPP
 go_wp2
 have hlv:(loadVar 53 ⟨r,0,none⟩).run Tryz.prog wf=.ok (.agg #[.int .i64 s.ph,.int .i64 s.at_,.slice A1 s.lk.cs.length c1,.int .i64 s.lk.ph,.int .i64 s.lk.hv,.int .i64 s.lk.tr,.int .i64 s.lk.wt,.int .i64 s.sn.ph,.int .i64 s.sn.ep,.int .i64 s.sn.ck,.int .i64 s.sn.sp,.slice A2 s.sh.length c2,.int .i64 s.dc,.slice A3 s.dl.length c3,.slice A4 s.st.length c4,.int .i64 s.dir.vn,.slice D5.A s.dir.l.length D5.c,.slice D5.A2 s.dir.F.length D5.c2,.slice O6.A s.o.sh.length O6.c,.int .i64 s.o.dc,.slice O6.Ad s.o.dl.length O6.cd,.slice O6.Ao s.o.od.length O6.co,.slice O6.Ac s.o.ca.length O6.cc,.slice O6.Ae s.o.ed.length O6.ce,.int .i64 s.lim,.slice A7 s.ca.length c7]) wf:=run_loadVar_mid wf r 0 53 [.int .i64 s.ph,.int .i64 s.at_,.slice A1 s.lk.cs.length c1,.int .i64 s.lk.ph,.int .i64 s.lk.hv,.int .i64 s.lk.tr,.int .i64 s.lk.wt,.int .i64 s.sn.ph,.int .i64 s.sn.ep,.int .i64 s.sn.ck,.int .i64 s.sn.sp,.slice A2 s.sh.length c2,.int .i64 s.dc,.slice A3 s.dl.length c3,.slice A4 s.st.length c4,.int .i64 s.dir.vn,.slice D5.A s.dir.l.length D5.c,.slice D5.A2 s.dir.F.length D5.c2,.slice O6.A s.o.sh.length O6.c,.int .i64 s.o.dc,.slice O6.Ad s.o.dl.length O6.cd,.slice O6.Ao s.o.od.length O6.co,.slice O6.Ac s.o.ca.length O6.cc,.slice O6.Ae s.o.ed.length O6.ce,.int .i64 s.lim,.slice A7 s.ca.length c7] _ HRB.out.range (Tryz.underlying53) rfl info_se
 exact bodyPost_ret (v:=.agg #[.int .i64 s.ph,.int .i64 s.at_,.slice A1 s.lk.cs.length c1,.int .i64 s.lk.ph,.int .i64 s.lk.hv,.int .i64 s.lk.tr,.int .i64 s.lk.wt,.int .i64 s.sn.ph,.int .i64 s.sn.ep,.int .i64 s.sn.ck,.int .i64 s.sn.sp,.slice A2 s.sh.length c2,.int .i64 s.dc,.slice A3 s.dl.length c3,.slice A4 s.st.length c4,.int .i64 s.dir.vn,.slice D5.A s.dir.l.length D5.c,.slice D5.A2 s.dir.F.length D5.c2,.slice O6.A s.o.sh.length O6.c,.int .i64 s.o.dc,.slice O6.Ad s.o.dl.length O6.cd,.slice O6.Ao s.o.od.length O6.co,.slice O6.Ac s.o.ca.length O6.cc,.slice O6.Ae s.o.ed.length O6.ce,.int .i64 s.lim,.slice A7 s.ca.length c7]) (by simp only [results,Tryz.results30];simp [Sem.run_bind,asAddr,hlv,Act.put]) rfl HF.out
end Go.Proofs.YtkecnihgjepfeaaGreat
