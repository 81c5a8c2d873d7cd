/- What is proved here: parts of the proof: Qck Ye Kcc Kpu Eql Rsd. -/
import Derived.Test.YtkecnihgjepfeaaGreatJ28
namespace Go.Proofs.YtkecnihgjepfeaaGreat
open Go.RowKit
set_option linter.unusedVariables false
set_option linter.unusedSimpArgs false
set_option maxHeartbeats 8000000
set_option maxRecDepth 20000
structure Ar.Few (a:Ar):Prop where
 sl:0<a.sl.length/\a.sl.length<=1000
 st:a.st.length<=1000
 dl:a.dl.length<=1000
 dr:a.dir.l.length<=1000/\a.dir.F.length<=1000
 sh:∀ s∈a.sl,s.sh.cs.length<=1000/\s.sh.l.length<=1000/\s.sh.h.length<=1000
structure Ci12 (w:World) (p r:Nat) (a:Ar) (Y:Ax) (W:World):Prop where
 pb:QB W p a Y
 rb:QB W r zA zAx
 ar:AR W w.heap.size a Y
 ne:w.heap.size<=p/\p<r
 bel:Below w.heap.size w W
section
variable {w W W' : World} {p r b:Nat} {a:Ar} {Y:Ax}
theorem Ci12.below (h:Ci12 w p r a Y W) (hb:Below W.heap.size W W'):Ci12 w p r a Y W':=⟨h.pb.up hb,h.rb.up hb,h.ar.below (hb.mono h.bel.size),h.ne,h.bel.trans (hb.mono h.bel.size)⟩
theorem Ci12.start (har:AR w w.heap.size a Y):Ci12 w w.heap.size (w.heap.size+1) a Y ((w.alloc (.cells #[.slice Y.A a.sl.length Y.c,.slice Y.A2 a.st.length Y.c2,.int .i64 a.ow,.int .i64 a.cap,.slice Y.A3 a.dl.length Y.c3,.int .i64 a.dir.vn,.slice Y.D.A a.dir.l.length Y.D.c,.slice Y.D.A2 a.dir.F.length Y.D.c2,.int .i64 a.ep,.int .i64 a.ck,.int .i64 a.ni] 36)).alloc (.cells #[.slice none 0 0,.slice none 0 0,.int .i64 0,.int .i64 0,.slice none 0 0,.int .i64 0,.slice none 0 0,.slice none 0 0,.int .i64 0,.int .i64 0,.int .i64 0] 36)):=by
 have h1:=QB.start (w.alloc (.cells #[.slice Y.A a.sl.length Y.c,.slice Y.A2 a.st.length Y.c2,.int .i64 a.ow,.int .i64 a.cap,.slice Y.A3 a.dl.length Y.c3,.int .i64 a.dir.vn,.slice Y.D.A a.dir.l.length Y.D.c,.slice Y.D.A2 a.dir.F.length Y.D.c2,.int .i64 a.ep,.int .i64 a.ck,.int .i64 a.ni] 36)) zA zAx 36
 rw [show (w.alloc (.cells #[.slice Y.A a.sl.length Y.c,.slice Y.A2 a.st.length Y.c2,.int .i64 a.ow,.int .i64 a.cap,.slice Y.A3 a.dl.length Y.c3,.int .i64 a.dir.vn,.slice Y.D.A a.dir.l.length Y.D.c,.slice Y.D.A2 a.dir.F.length Y.D.c2,.int .i64 a.ep,.int .i64 a.ck,.int .i64 a.ni] 36)).heap.size=w.heap.size+1 by simp] at h1
 have b2:Below w.heap.size w ((w.alloc (.cells #[.slice Y.A a.sl.length Y.c,.slice Y.A2 a.st.length Y.c2,.int .i64 a.ow,.int .i64 a.cap,.slice Y.A3 a.dl.length Y.c3,.int .i64 a.dir.vn,.slice Y.D.A a.dir.l.length Y.D.c,.slice Y.D.A2 a.dir.F.length Y.D.c2,.int .i64 a.ep,.int .i64 a.ck,.int .i64 a.ni] 36)).alloc (.cells #[.slice none 0 0,.slice none 0 0,.int .i64 0,.int .i64 0,.slice none 0 0,.int .i64 0,.slice none 0 0,.slice none 0 0,.int .i64 0,.int .i64 0,.int .i64 0] 36)):=((Below.refl _ _).alloc (nLR _) _).alloc (by simp) _
 exact ⟨(QB.start w a Y _).alloc _,h1,har.below b2,⟨nLR _,by omega⟩,b2⟩
theorem Ci12.cb (h:Ci12 w p r a Y W) (hb:Below W.heap.size W W') {cap:Nat} (hr:Rb W' b (qcs Y.q)) (hbb:W.heap.size<=b) (hc:a.sl.length<=cap/\cap<=maxLen):Cb12 w p r b a ⟨some ⟨b,0,none⟩,cap,Y.q,Y.A2,Y.c2,Y.A3,Y.c3,Y.D⟩ (W'.setCell ⟨p,0,none⟩ (.slice (some ⟨b,0,none⟩) a.sl.length cap)):=by
 have h':=h.below hb
 have hne:=h.ne
 have hrl:=h.rb.lt
 have hl:=h.bel.size
 have hs:∀ {q:Nat},w.heap.size<=q->AOff a Y q:=fun hq=>h.ar.offs hq
 have hpo:=hs hne.1
 have hro:=hs (show w.heap.size<=r by omega)
 have hbo:=hs (show w.heap.size<=b by omega)
 have hw:w.heap.size<=(W'.setCell ⟨p,0,none⟩ (.slice (some ⟨b,0,none⟩) a.sl.length cap)).heap.size:=by simpa using h'.bel.size
 have har:=(h'.ar.offp (q:=⟨p,0,none⟩) hpo (.slice (some ⟨b,0,none⟩) a.sl.length cap)).more hw
 exact ⟨h'.pb.setSlo _ _ _,h'.rb.other (x:=⟨p,0,none⟩) (show p≠r by omega) _,hr.other (a:=⟨p,0,none⟩) (show p≠b by omega) _,rfl,hc,h.ar.so,fun t ht=>⟨har.sr t ht,hbo.os t ht,hpo.os t ht,hro.os t ht⟩,⟨har.tl,hbo.o2,hpo.o2,hro.o2⟩,⟨har.ls,hbo.o3,hpo.o3,hro.o3⟩,⟨har.dr,hbo.o4,hpo.o4,hro.o4⟩,⟨hne.1,hne.2,by omega⟩,h'.bel.setCell (p:=⟨p,0,none⟩) hne.1 _⟩
theorem Rb.q9 {Q:List Sl} {i:Nat} {t:Sl} (h:Rb W b (qcs Q)) (hi:Q[i]? = some t):Q9 W b (i*9) t:=by
 obtain ⟨hl,e⟩:=List.getElem?_eq_some_iff.1 hi
 have g:∀ j u,j<9->t.l[j]? = some u->W.cell? ⟨b,i*9+j,none⟩=some u:=fun j u hj hu=>h.c _ u (by rw [qcs_at Q i j hl hj,e];exact hu)
 exact ⟨g 0 _ (by omega) rfl,g 1 _ (by omega) rfl,g 2 _ (by omega) rfl,g 3 _ (by omega) rfl,g 4 _ (by omega) rfl,g 5 _ (by omega) rfl,g 6 _ (by omega) rfl,g 7 _ (by omega) rfl,g 8 _ (by omega) rfl⟩
end
def Sr12 (p r b:Nat) (a:Ar) (Y:Ax) (W:World):Prop:=0<a.st.length->∃ b2,Y.A2=some ⟨b2,0,none⟩/\(a.st.length<=Y.c2/\Y.c2<=maxLen)/\Rb W b2 (tcs a.st)/\(b2≠b/\b2≠p/\b2≠r)/\(∀ t∈Y.q,SOff t.sh t.sx b2)/\OffB b2 a.dl.length Y.A3/\DOff a.dir Y.D b2
section
variable {w W W' : World} {p r b:Nat} {a:Ar} {Y:Ax}
theorem Sr12.up (h:Sr12 p r b a Y W) (hb:Below W.heap.size W W'):Sr12 p r b a Y W':=fun h0=>by
 obtain ⟨b2,e,hc,hr,hn⟩:=h h0
 exact ⟨b2,e,hc,hr.up hb,hn⟩
theorem Sr12.put (h:Sr12 p r b a Y W) (j:Nat) (v:Value):Sr12 p r b a Y (W.setCell ⟨p,j,none⟩ v):=fun h0=>by
 obtain ⟨b2,e,hc,hr,hn,ho⟩:=h h0
 exact ⟨b2,e,hc,hr.other (a:=⟨p,j,none⟩) (fun e'=>hn.2.1 e'.symm) v,hn,ho⟩
theorem Sr12.ded (h:Sr12 p r b a Y W) {A:Option Addr} {c:Nat} (hn:Nw W.heap.size A):Sr12 p r b a ⟨Y.A,Y.c,Y.q,Y.A2,Y.c2,A,c,Y.D⟩ W:=fun h0=>by
 obtain ⟨b2,e,hc,hr,hne,ho,o3,o4⟩:=h h0
 exact ⟨b2,e,hc,hr,hne,ho,offb_nw hn hr.lt,o4⟩
theorem Sr12.dir (h:Sr12 p r b a Y W) {X:Dx} (hn:X.nw W.heap.size):Sr12 p r b a ⟨Y.A,Y.c,Y.q,Y.A2,Y.c2,Y.A3,Y.c3,X⟩ W:=fun h0=>by
 obtain ⟨b2,e,hc,hr,hne,ho,o3,o4⟩:=h h0
 exact ⟨b2,e,hc,hr,hne,ho,o3,hn.off hr.lt⟩
theorem Sr12.set11 (h:Sr12 p r b a Y W) (a' : Ar) (Y' : Ax):Sr12 p r b a Y (set11 W r a' Y'):=fun h0=>by
 obtain ⟨b2,e,hc,hr,hn,ho⟩:=h h0
 exact ⟨b2,e,hc,hr.set11 (fun e'=>hn.2.2 e'.symm) a' Y',hn,ho⟩
end
theorem stclp_tlv {w w' : World} {l:List St} {e:Ending} (h:STClP w l e w'):∃ A c,e=.returned (.slice A l.length c)/\Nw w.heap.size A/\Tl w' w'.heap.size (.slice A l.length c) l/\Below w.heap.size w w'/\(0<l.length->∃ b2,A=some ⟨b2,0,none⟩/\(l.length<=c/\c<=maxLen)/\w.heap.size<=b2/\Rb w' b2 (tcs l)):=by
 obtain ⟨v,rfl,ho,hb⟩:=h
 obtain ⟨A,c,rfl⟩:=own_form ho
 refine ⟨A,c,rfl,nwv_of (nwv_own ho (nLR _)),Tl.of_own ho,hb,fun h0=>?_⟩
 obtain ⟨q,cap,e,h1,h2,h3,h4⟩:=own_rb ho h0
 injection e with e1 e2 e3
 subst e1 e3
 exact ⟨q,rfl,⟨h2,h3⟩,h1,h4⟩
def AvP2 (w:World) (a:Ar) (e:Ending) (w' : World):Prop:=∃ (Y:Ax) (b p r:Nat),e=.returned (av a Y)/\Y.nw w.heap.size/\AR w' w'.heap.size a Y/\Below w.heap.size w w'/\Y.A=some ⟨b,0,none⟩/\(a.sl.length<=Y.c/\Y.c<=maxLen)/\Rb w' b (qcs Y.q)/\(∀ t∈Y.q,SOff t.sh t.sx b)/\OffB b a.st.length Y.A2/\OffB b a.dl.length Y.A3/\DOff a.dir Y.D b/\Sr12 p r b a Y w'
theorem avp2_av {w w' : World} {a:Ar} {e:Ending} (h:AvP2 w a e w'):AvP w a e w':=by
 obtain ⟨Y,b,p,r,h1,h2,h3,h4,h5,h6,h7,h8,h9,h10,h11,-⟩:=h
 exact ⟨Y,b,h1,h2,h3,h4,h5,h6,h7,h8,h9,h10,h11⟩
theorem aclone2_any (a:Ar) (Y:Ax) (w:World) (har:AR w w.heap.size a Y) (hf:a.Few):Calls Tryz.prog 32 #[av a Y] w (AvP2 w a):=by
 obtain ⟨p,hp⟩:∃ p,p=w.heap.size:=⟨_,rfl⟩
 obtain ⟨r,hr⟩:∃ r,r=w.heap.size+1:=⟨_,rfl⟩
 have H0:=Lh (show Ci12 w p r a Y _ from by rw [hr,hp];exact Ci12.start har)
 have HQL:=Lh har.len
 have HFW:=Lh hf
 have HPP:=Lh (And.intro hp hr)
 have HC1:=Lh (fun W (k:Ci12 w p r a Y W)=>slclone_any Y.A a.sl.length Y.c Y.q W (k.ar.ql.more k.bel.size) hf.sl.2)
 clear hp hr har hf
 go_enter Tryz.func32,Tryz.ntmps32
 go_upto_region 1 with (fail)
 rw [<-HPP.out.2,<-HPP.out.1]
 generalize (w.alloc (.cells #[.slice Y.A a.sl.length Y.c,.slice Y.A2 a.st.length Y.c2,.int .i64 a.ow,.int .i64 a.cap,.slice Y.A3 a.dl.length Y.c3,.int .i64 a.dir.vn,.slice Y.D.A a.dir.l.length Y.D.c,.slice Y.D.A2 a.dir.F.length Y.D.c2,.int .i64 a.ep,.int .i64 a.ck,.int .i64 a.ni] 36)).alloc (.cells #[.slice none 0 0,.slice none 0 0,.int .i64 0,.int .i64 0,.slice none 0 0,.int .i64 0,.slice none 0 0,.slice none 0 0,.int .i64 0,.int .i64 0,.int .i64 0] 36)=w1 at*
 obtain ⟨y0,y1,y2,y3,y4,y5,y6,y7,y8,y9,y10⟩:=H0.out.pb.k
 have yl:=H0.out.pb.lt
 go_wp2_with fail
 clear y0 y1 y2 y3 y4 y5 y6 y7 y8 y9 y10 yl
 refine (HC1.out _ H0.out).mono ?_
 rintro e w2 ⟨v,rfl,ho,hb⟩
 rw [HQL.out] at ho
 obtain ⟨b,cap,rfl,hbb,hle,hmx,hrow⟩:=own_rb ho HFW.out.sl.1
 have HB:=Lh (H0.out.cb hb hrow hbb ⟨hle,hmx⟩)
 have H1:=Lh (H0.out.below hb)
 clear ho hb hbb hle hmx hrow H0 HC1
 obtain ⟨y0,y1,y2,y3,y4,y5,y6,y7,y8,y9,y10⟩:=H1.out.pb.k
 have yl:=H1.out.pb.lt
 obtain ⟨f0,f1,f2,f3,f4,f5,f6,f7,f8,f9,f10⟩:=H1.out.pb.free
 go_upto_region 2 with (fail)
 clear y0 y1 y2 y3 y4 y5 y6 y7 y8 y9 y10 yl f0 f1 f2 f3 f4 f5 f6 f7 f8 f9 f10 H1
 generalize w2.setCell ⟨p,0,none⟩ (.slice (some ⟨b,0,none⟩) a.sl.length cap)=w3 at*
 obtain ⟨y0,y1,y2,y3,y4,y5,y6,y7,y8,y9,y10⟩:=HB.out.pb.k
 have yl:=HB.out.pb.lt
 go_wp2_with fail
 clear y0 y1 y2 y3 y4 y5 y6 y7 y8 y9 y10 yl
 go_loopw [11] (fun iv wr=>∃ (i:Nat) (Q:List Sl),iv=.int .i64 i/\i<=a.sl.length/\Hid (Cb12 w p r b a ⟨some ⟨b,0,none⟩,cap,Q,Y.A2,Y.c2,Y.A3,Y.c3,Y.D⟩ wr)/\Hid (∀ j t,j<i->Q[j]? = some t->t.sx.nw (b+1))) (fun iv _=>a.sl.length - (intOf iv).toNat)
 case atStart=>exact ⟨0,Y.q,rfl,Nat.zero_le _,HB,Lh (fun j t h=>absurd h (by omega))⟩
 case round=>
  clear HB
  obtain ⟨i,Q,rfl,hi,HB,HN⟩:=hrel
  obtain ⟨y0,y1,y2,y3,y4,y5,y6,y7,y8,y9,y10⟩:=HB.out.pb.k
  have yl:=HB.out.pb.lt
  by_cases hlt:i<a.sl.length
  ·have hlt' : (i:Int)<(a.sl.length:Int):=by omega
   have hw1:IntKind.i64.wrap ((i:Int)+1)=(i:Int)+1:=IntWalk.i64_in _ (by have:=HFW.out.sl.2;omega)
   have hq:∃ (x:Int) (S:Sh) (D:Sx),Q[i]? = some ⟨x,S,D⟩/\(S.cs.length<=1000/\S.l.length<=1000/\S.h.length<=1000):=by
    have hl:i<Q.length:=by have:=HB.out.len;simp only at this;omega
    refine ⟨Q[i].ow,Q[i].sh,Q[i].sx,List.getElem?_eq_getElem hl,?_⟩
    have:=HFW.out.sh (Q[i].so) (by rw [<-HB.out.so];exact List.mem_map_of_mem (List.getElem_mem hl))
    exact this
   obtain ⟨x,S,D,hqi,hb3⟩:=hq
   have HQI:=Lh hqi
   have HCS:=Lh (fun W (k:Cb12 w p r b a ⟨some ⟨b,0,none⟩,cap,Q,Y.A2,Y.c2,Y.A3,Y.c3,Y.D⟩ W)=>cshard_any S D W (k.sr ⟨x,S,D⟩ (List.mem_of_getElem? hqi)).1 hb3.1 hb3.2.1 hb3.2.2)
   obtain ⟨q0,q1,q2,q3,q4,q5,q6,q7,q8⟩:=HB.out.ro.q9 hqi
   have ql:=HB.out.ro.lt
   have HM:=Lh (HB.out.below (Below.refl _ _).drew)
   clear hqi hb3 hi hlt
   simp only at q0 q1 q2 q3 q4 q5 q6 q7 q8
   go_wp2_with fail
   go_region_law ((go_simp;go_at_call 57;(with_reducible refine (HCS.out _ HM.out).mono ?_);rintro e w4 ⟨E,rfl,hn,hr,hb⟩;have HE:=Lh (hn.low (show b+1<=_ from HM.out.ro.lt));have HP:=Lh ((HM.out.below hb).slot HQI.out hr HE.out);obtain ⟨q0,q1,q2,q3,q4,q5,q6,q7,q8⟩:=(HM.out.below hb).ro.q9 HQI.out;obtain ⟨y0,-⟩:=(HM.out.below hb).pb.k;have yl:=(HM.out.below hb).pb.lt;have ql:=(HM.out.below hb).ro.lt;have g1:=(HM.out.below hb).ro.f (i*9+1);have g2:=(HM.out.below hb).ro.f (i*9+2);have g3:=(HM.out.below hb).ro.f (i*9+3);have g4:=(HM.out.below hb).ro.f (i*9+4);have g5:=(HM.out.below hb).ro.f (i*9+5);have g6:=(HM.out.below hb).ro.f (i*9+6);have g7:=(HM.out.below hb).ro.f (i*9+7);have g8:=(HM.out.below hb).ro.f (i*9+8);simp only at q0 q1 q2 q3 q4 q5 q6 q7 q8 y0;clear hn hr hb))
   all_goals
    have HNN:=Lh (show ∀ j t,j<i+1->(Q.set i ⟨x,S,E⟩)[j]? = some t->t.sx.nw (b+1) from fun j t hj ht=>by
     by_cases e:j=i
     ·subst e
      rw [List.getElem?_set_self (List.getElem?_eq_some_iff.1 HQI.out).1] at ht
      injection ht with ht
      subst ht
      exact HE.out
     ·rw [List.getElem?_set_ne (fun e'=>e e'.symm)] at ht
      exact HN.out j t (by omega) ht)
    have HPP2:=Lh HP.out
    clear HP HM HB HN HE HCS HQI
    go_wp2
    go_roundw
    case rel=>exact ⟨i+1,Q.set i ⟨x,S,E⟩,by go_num,by omega,HPP2,HNN⟩
    case measure=>simp [intOf];omega
  ·have hin:i=a.sl.length:=by omega
   have HNQ:=Lh (show ∀ t∈Q,t.sx.nw (b+1) from fun t ht=>by
    obtain ⟨j,hj,e⟩:=List.getElem_of_mem ht
    exact HN.out j t (by have:=HB.out.len;simp only at this;omega) (by rw [List.getElem?_eq_getElem hj,e]))
   have hlt' : ¬(i:Int)<(a.sl.length:Int):=by omega
   have HC2:=Lh (fun W (k:Cb12 w p r b a ⟨some ⟨b,0,none⟩,cap,Q,Y.A2,Y.c2,Y.A3,Y.c3,Y.D⟩ W)=>(stclone_any Y.A2 a.st.length Y.c2 a.st W k.tl.1 HFW.out.st).mono fun _ _ h=>stclp_tlv h)
   clear HN hin hi hlt
   go_wp2_with fail
   clear y0 y1 y2 y3 y4 y5 y6 y7 y8 y9 y10 yl
   refine (HC2.out _ HB.out).mono ?_
   rintro e w4 ⟨A2,c2,rfl,hn,hl,hb,hrow2⟩
   have HR2:=Lh (show Sr12 p r b a ⟨some ⟨b,0,none⟩,cap,Q,A2,c2,Y.A3,Y.c3,Y.D⟩ w4 from fun h0=>by
    obtain ⟨b2,e2,hc2,hge,hr2⟩:=hrow2 h0
    have l1:=HB.out.ro.lt
    have l2:=HB.out.pb.lt
    have l3:=HB.out.rb.lt
    exact ⟨b2,e2,hc2,hr2,by omega,fun t ht=>(HB.out.sr t ht).1.offs8 hge,rd_off HB.out.ls.1.rd hge,HB.out.dr.1.offs hge⟩)
   have HR3:=Lh (HR2.out.put 1 (.slice A2 a.st.length c2))
   have HN2:=Lh (nw_low hn (show b+1<=_ from HB.out.ro.lt))
   have H2:=Lh (HB.out.below hb)
   have H3:=Lh (H2.out.str hl HN2.out)
   clear hn hl hb HB HC2 HR2 hrow2
   obtain ⟨y0,y1,y2,y3,y4,y5,y6,y7,y8,y9,y10⟩:=H2.out.pb.k
   have yl:=H2.out.pb.lt
   obtain ⟨f0,f1,f2,f3,f4,f5,f6,f7,f8,f9,f10⟩:=H2.out.pb.free
   go_upto_region 8 with (fail)
   clear y0 y1 y2 y3 y4 y5 y6 y7 y8 y9 y10 yl f0 f1 f2 f3 f4 f5 f6 f7 f8 f9 f10 H2
   generalize w4.setCell ⟨p,1,none⟩ (.slice A2 a.st.length c2)=w5 at*
   have HC3:=Lh (cdead_any a.cap Y.A3 Y.c3 a.dl w5 H3.out.ls.1 HFW.out.dl)
   obtain ⟨y0,y1,y2,y3,y4,y5,y6,y7,y8,y9,y10⟩:=H3.out.pb.k
   have yl:=H3.out.pb.lt
   go_wp2_with fail
   clear y0 y1 y2 y3 y4 y5 y6 y7 y8 y9 y10 yl
   refine HC3.out.mono ?_
   rintro e w6 ⟨A3,c3,rfl,hn,hl,hb⟩
   have HR4:=Lh ((((HR3.out.ded hn (c:=c3)).up hb).put 3 (.int .i64 a.cap)).put 4 (.slice A3 a.dl.length c3))
   have HN3:=Lh (nw_low hn (show b+1<=_ from H3.out.ro.lt))
   have H4:=Lh (H3.out.below hb)
   have H5:=Lh (H4.out.ded hl HN3.out)
   clear hn hl hb H3 HC3 HR3
   obtain ⟨y0,y1,y2,y3,y4,y5,y6,y7,y8,y9,y10⟩:=H4.out.pb.k
   have yl:=H4.out.pb.lt
   obtain ⟨f0,f1,f2,f3,f4,f5,f6,f7,f8,f9,f10⟩:=H4.out.pb.free
   go_upto_region 9 with (fail)
   clear y0 y1 y2 y3 y4 y5 y6 y7 y8 y9 y10 yl f0 f1 f2 f3 f4 f5 f6 f7 f8 f9 f10 H4
   generalize (w6.setCell ⟨p,3,none⟩ (.int .i64 a.cap)).setCell ⟨p,4,none⟩ (.slice A3 a.dl.length c3)=w7 at*
   have HC4:=Lh (cdir_any a.dir Y.D w7 H5.out.dr.1 HFW.out.dr.1 HFW.out.dr.2)
   obtain ⟨y0,y1,y2,y3,y4,y5,y6,y7,y8,y9,y10⟩:=H5.out.pb.k
   have yl:=H5.out.pb.lt
   go_wp2_with fail
   clear y0 y1 y2 y3 y4 y5 y6 y7 y8 y9 y10 yl
   refine HC4.out.mono ?_
   rintro e w8 ⟨X,rfl,hn,hd,hb⟩
   have HR5:=Lh (((((HR4.out.dir hn).up hb).put 5 (.int .i64 a.dir.vn)).put 6 (.slice X.A a.dir.l.length X.c)).put 7 (.slice X.A2 a.dir.F.length X.c2))
   have HN4:=Lh (hn.low (show b+1<=_ from H5.out.ro.lt))
   have H6:=Lh (H5.out.below hb)
   have H7:=Lh (H6.out.dir hd HN4.out)
   clear hn hd hb H5 HC4 HR4
   obtain ⟨y0,y1,y2,y3,y4,y5,y6,y7,y8,y9,y10⟩:=H6.out.pb.k
   have yl:=H6.out.pb.lt
   obtain ⟨f0,f1,f2,f3,f4,f5,f6,f7,f8,f9,f10⟩:=H6.out.pb.free
   go_upto_region 10 with (fail)
   clear y0 y1 y2 y3 y4 y5 y6 y7 y8 y9 y10 yl f0 f1 f2 f3 f4 f5 f6 f7 f8 f9 f10 H6
   generalize ((w8.setCell ⟨p,5,none⟩ (.int .i64 a.dir.vn)).setCell ⟨p,6,none⟩ (.slice X.A a.dir.l.length X.c)).setCell ⟨p,7,none⟩ (.slice X.A2 a.dir.F.length X.c2)=w9 at*
   have HNW:=Lh (show Ax.nw ⟨some ⟨b,0,none⟩,cap,Q,A2,c2,A3,c3,X⟩ (r+1) from by
    have hl:r+1<=b+1:=by have:=H7.out.ne;omega
    exact ⟨nw_some (by have:=H7.out.ne;omega),fun t ht=>(HNQ.out t ht).low hl,nw_low HN2.out hl,nw_low HN3.out hl,HN4.out.low hl⟩)
   have HF:=Lh (show AvP2 w a (.returned (av a ⟨some ⟨b,0,none⟩,cap,Q,A2,c2,A3,c3,X⟩)) (set11 w9 r a ⟨some ⟨b,0,none⟩,cap,Q,A2,c2,A3,c3,X⟩) from by
    have hne:=H7.out.ne
    have hl:=HNW.out
    have h1:=(H7.out.ar.set11 (hl.off (Nat.lt_succ_self r)) a ⟨some ⟨b,0,none⟩,cap,Q,A2,c2,A3,c3,X⟩).more (B':=(set11 w9 r a ⟨some ⟨b,0,none⟩,cap,Q,A2,c2,A3,c3,X⟩).heap.size) (by rw [set11_size];exact nLR _)
    exact ⟨_,b,p,r,rfl,hl.low (by omega),h1,set11_below H7.out.bel (by omega) _ _,H7.out.ea,H7.out.ec,H7.out.ro.set11 (by omega) _ _,fun t ht=>(H7.out.sr t ht).2.1,H7.out.tl.2.1,H7.out.ls.2.1,H7.out.dr.2.1,HR5.out.set11 _ _⟩)
   clear HR5
   obtain ⟨y0,y1,y2,y3,y4,y5,y6,y7,y8,y9,y10⟩:=H7.out.pb.k
   have yl:=H7.out.pb.lt
   obtain ⟨r0,r1,r2,r3,r4,r5,r6,r7,r8,r9,r10⟩:=H7.out.rb.k
   have rl:=H7.out.rb.lt
   obtain ⟨f0,f1,f2,f3,f4,f5,f6,f7,f8,f9,f10⟩:=H7.out.rb.free
   have hpr:¬p=r:=by have:=H7.out.ne;omega
   have hrp:¬r=p:=fun e=>hpr e.symm
   clear HNW HNQ HN2 HN3 HN4 H7
   go_wp2
   exact bodyPost_ret (v:=av a ⟨some ⟨b,0,none⟩,cap,Q,A2,c2,A3,c3,X⟩) (by simp only [results,Tryz.results32];go_simp <;> rfl) rfl HF.out
theorem aclone_any (a:Ar) (Y:Ax) (w:World) (har:AR w w.heap.size a Y) (hf:a.Few):Calls Tryz.prog 32 #[av a Y] w (AvP w a):=(aclone2_any a Y w har hf).mono fun _ _ h=>avp2_av h
structure TwT (w:World) (A B:Option Addr) (n m:Nat) (c d:Nat) (x y:List St) (W:World):Prop where
 a:Tl W W.heap.size (.slice A n c) x
 b:Tl W W.heap.size (.slice B m d) y
 bel:Below w.heap.size w W
structure Mc2 (W:World) (g:Nat) (v0 v1:Value) (l0 l1:List Msg):Prop where
 c0:W.cell? ⟨g,0,none⟩=some v0
 c1:W.cell? ⟨g,1,none⟩=some v1
 lt:g<W.heap.size
 e0:Ls W W.heap.size v0 l0
 e1:Ls W W.heap.size v1 l1
structure Tw8 (w:World) (p r:Nat) (cap:Int) (A:Option Addr) (c:Nat) (l:List Msg) (W:World):Prop where
 db:Db8 W p cap A l.length c
 rs:Db8 W r 0 none 0 0
 ls:Ls W w.heap.size (.slice A l.length c) l
 bel:Below w.heap.size w W
 old:w.heap.size<=p/\p<r
section
variable {w W W' : World} {p r c:Nat} {cap:Int} {A:Option Addr} {l:List Msg}
end
structure Pu8 (w:World) (p r:Nat) (cap:Int) (A:Option Addr) (c:Nat) (l:List Msg) (W:World):Prop where
 db:Db8 W p cap A l.length c
 rs:Db8 W r 0 none 0 0
 ls:Ls W W.heap.size (.slice A l.length c) l
 nw:Nw (r+1) A
 bel:Below w.heap.size w W
 old:w.heap.size<=p/\p<r
section
variable {w W W' : World} {p r c:Nat} {cap:Int} {A:Option Addr} {l:List Msg}
end
theorem eqm_fuel (M:Msg) (f:Nat) (W:World):(Op.equalIn (f+2) 79 M.v M.v).run Tryz.prog W=.ok true W:=by
 have u3:=Tryz.underlying3
 have u9:=Tryz.underlying9
 have hS:Tryz.prog.underlying 79=some (.struct (Tryz.prog.fieldsOf 79)):=by kernel_rfl
 have hp:Tryz.prog.stoodInHeld 79=false:=by kernel_rfl
 rw [show f+2=(f+1)+1 from rfl,run_equalIn_agg W (f+1) 79 _ _ hS hp]
 simp only [Program.fieldsOf,Tryz.underlying79]
 go_simp
theorem eql_in (x:Le) (W:World):(Op.equalIn 10000 152 x.v x.v).run Tryz.prog W=.ok true W:=by
 have u3:=Tryz.underlying3
 have hS:Tryz.prog.underlying 152=some (.struct (Tryz.prog.fieldsOf 152)):=by kernel_rfl
 have hp:Tryz.prog.stoodInHeld 152=false:=by kernel_rfl
 have hM:=fun W=>eqm_fuel x.m 9997 W
 rw [show (10000:Nat)=9999+1 from rfl,run_equalIn_agg W 9999 152 _ _ hS hp]
 simp only [Program.fieldsOf,Tryz.underlying152]
 go_simp
theorem eql (x:Le):∀ W,(binOp .eql 152 x.v x.v).run Tryz.prog W=.ok (.bool true) W:=fun W=>by
 rw [run_eql_struct,eql_in];rfl
theorem neql (x:Le):∀ W,(binOp .neq 152 x.v x.v).run Tryz.prog W=.ok (.bool false) W:=fun W=>by
 rw [run_neq_struct,eql_in];rfl
theorem rsame5_yes (A A' : Option Addr) (n n' c c' : Nat) (l:List Du) (w:World) (B B' : Nat) (hv:Dl w B (.slice A n c) l) (hv' : Dl w B' (.slice A' n' c') l) :
  Calls Tryz.prog 67 #[.slice A n c,.slice A' n' c'] w fun e w'=>e=.returned (.bool true)/\Below w.heap.size w w':=by
 obtain ⟨rfl,hm1,hm2⟩:=hv.len
 obtain ⟨rfl,hm1',hm2'⟩:=hv'.len
 have hL:l.length<=9223372036854775807:=by unfold maxLen at hm2;omega
 have HV:=Lh hv
 have HV':=Lh hv'
 have HB:=Lh (Below.refl w.heap.size w)
 clear hv hm1 hm2 hv' hm1' hm2'
 go_enter Tryz.func67,Tryz.ntmps67
 go_wp2
 go_loopw [5] (fun i wr=>∃ k:Nat,k<=l.length/\i=.int .i64 k/\Dl wr B (.slice A l.length c) l/\Dl wr B' (.slice A' l.length c') l/\Below w.heap.size w wr) (fun i _=>l.length - (intOf i).toNat)
 case atStart=>exact ⟨0,by omega,rfl,HV.out,HV'.out,HB.out⟩
 case round=>
  obtain ⟨k,hk,rfl,hv,hv',hb⟩:=hrel
  have HV:=Lh hv
  have HV':=Lh hv'
  have HB:=Lh hb
  clear hv hv' hb
  by_cases hlt:k<l.length
  ·obtain ⟨b,o,rfl,hb,c0,c1⟩:=HV.out.atg hlt
   obtain ⟨b',o',rfl,hb',d0,d1⟩:=HV'.out.atg hlt
   generalize ge l k=M at*
   have hne:=neqd_no M
   go_wp2
   go_quiet (fail)
   go_wp2
   go_roundw
   case rel=>exact ⟨k+1,by omega,by go_num,HV.out.drewN _,HV'.out.drewN _,bel_drewN HB.out _⟩
   case measure=>simp [intOf];omega
  ·go_wp2
   go_ret
   exact ⟨rfl,HB.out⟩
end Go.Proofs.YtkecnihgjepfeaaGreat
