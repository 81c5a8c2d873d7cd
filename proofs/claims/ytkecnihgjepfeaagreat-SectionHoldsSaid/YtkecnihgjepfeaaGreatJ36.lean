/- What is proved here: parts of the proof: Jt Ju Jv Ym Jso Jtu. -/
import Derived.Test.YtkecnihgjepfeaaGreatJ35
namespace Go.Proofs.YtkecnihgjepfeaaGreat
open Go.RowKit
set_option linter.unusedVariables false
set_option linter.unusedSimpArgs false
set_option maxHeartbeats 8000000
set_option maxRecDepth 20000
theorem jacq_any (a:Ar) (Y:Ax) (l:Lk) (A:Option Addr) (c:Nat) (t:Int) (w:World) (har:AR w w.heap.size a Y) (hf:Fl w w.heap.size (.slice A l.cs.length c) l.cs) (hw:a.Few) (hs:l.sm):Calls Tryz.prog 129 #[av a Y,lv l A c,.int .i64 t] w (SE13o A w (tlA a (ctF l.cs l.hv) t) (aqR a l t) (aqE a l t)):=by
 obtain ⟨p,hp⟩:∃ p,p=w.heap.size:=⟨_,rfl⟩
 obtain ⟨q,hq⟩:∃ q,q=w.heap.size+1:=⟨_,rfl⟩
 obtain ⟨r,hr⟩:∃ r,r=w.heap.size+2:=⟨_,rfl⟩
 obtain ⟨s,hss⟩:∃ s,s=w.heap.size+3:=⟨_,rfl⟩
 have H0:=Lh (show Js w p q r s a Y l A c _ from by rw [hss,hr,hq,hp];exact Js.start har hf)
 have HPP:=Lh (And.intro hp (And.intro hq (And.intro hr hss)))
 have HC:=Lh (fun W (k:Js w p q r s a Y l A c W)=>jcell_any l A c l.hv W k.fl)
 obtain ⟨k,hk⟩:∃ k,k=ctF l.cs l.hv:=⟨_,rfl⟩
 have HT:=Lh (fun W (h:Js w p q r s a Y l A c W)=>atrylock_any a Y k t W h.ar hw)
 obtain ⟨E,hE⟩:∃ E,E=aqE a l t:=⟨_,rfl⟩
 obtain ⟨M,hM⟩:∃ M,M=aqR a l t:=⟨_,rfl⟩
 obtain ⟨TA,hTA⟩:∃ x,x=tlA a k t:=⟨_,rfl⟩
 obtain ⟨B,hB⟩:∃ x,x=tlB a k t:=⟨_,rfl⟩
 have HM:=Lh (show M=if E=0 then aqL l B else zK from by rw [hM,hE,hB,hk];rfl)
 have HTZ:=Lh (show E≠0->TA=zA from fun h=>by rw [hTA];exact if_neg (by rw [hE] at h;unfold aqE at h;rw [<-hk] at h;exact h))
 rw [<-hk] at HC
 rw [<-hTA,<-hB,show lkE a.sl.length k t=E by rw [hE,hk];rfl] at HT
 rw [<-hE,<-hM,<-hk,<-hTA]
 have hw1:IntKind.i64.wrap (l.hv+1)=l.hv+1:=IntWalk.i64_in _ (by have:=hs.1;omega)
 clear hp hq hr hss har hf hw hs hk hE hM hTA hB
 go_enter Tryz.func129,Tryz.ntmps129
 go_upto_region 1 with (fail)
 rw [<-HPP.out.2.2.2,<-HPP.out.2.2.1,<-HPP.out.2.1,<-HPP.out.1]
 generalize ((((w.alloc (.cells #[.slice Y.A a.sl.length Y.c,.slice Y.A2 a.st.length Y.c2,.int .i64 a.ow,.int .i64 a.cap,.slice Y.A3 a.dl.length Y.c3,.int .i64 a.dir.vn,.slice Y.D.A a.dir.l.length Y.D.c,.slice Y.D.A2 a.dir.F.length Y.D.c2,.int .i64 a.ep,.int .i64 a.ck,.int .i64 a.ni] 36)).alloc (.cells #[.slice A l.cs.length c,.int .i64 l.ph,.int .i64 l.hv,.int .i64 l.tr,.int .i64 l.wt] 45)).alloc (.cells #[.slice none 0 0,.slice none 0 0,.int .i64 0,.int .i64 0,.slice none 0 0,.int .i64 0,.slice none 0 0,.slice none 0 0,.int .i64 0,.int .i64 0,.int .i64 0] 36)).alloc (.cells #[.slice none 0 0,.int .i64 0,.int .i64 0,.int .i64 0,.int .i64 0] 45))=w1 at*
 have HJ:=Lh H0.out.drew
 have HS:=Lh HJ.out.cl
 obtain ⟨y0,y1,y2,y3,y4,y5,y6,y7,y8,y9,y10⟩:=H0.out.pb.k
 have yl:=H0.out.pb.lt
 obtain ⟨f0,f1,f2,f3,f4,f5,f6,f7,f8,f9,f10⟩:=H0.out.pb.free
 obtain ⟨l0,l1,l2,l3,l4⟩:=H0.out.qb.k
 have ll:=H0.out.qb.lt
 obtain ⟨e0,e1,e2,e3,e4⟩:=H0.out.qb.free
 go_cut [9,10] (fun s9 s10 wx=>s9=.bool B/\s10=.int .i64 E/\∃ Z,Hid (Js w p q r s TA Z l A c wx/\Z.nw w.heap.size))
 case first=>
  go_region_law (first
   | (go_simp;go_at_call 151;(with_reducible refine (HC.out _ HJ.out).mono ?_);rintro e w2 ⟨rfl,hb⟩;have HJ:=Lh (HJ.out.below hb);clear hb;obtain ⟨y0,y1,y2,y3,y4,y5,y6,y7,y8,y9,y10⟩:=HJ.out.pb.k;have yl:=HJ.out.pb.lt;obtain ⟨f0,f1,f2,f3,f4,f5,f6,f7,f8,f9,f10⟩:=HJ.out.pb.free;obtain ⟨l0,l1,l2,l3,l4⟩:=HJ.out.qb.k;have ll:=HJ.out.qb.lt;obtain ⟨e0,e1,e2,e3,e4⟩:=HJ.out.qb.free)
   | (go_simp;go_at_call 150;(with_reducible refine (HT.out _ HJ.out).mono ?_);rintro e w3 ⟨Z,rfl,hn,hr,hb⟩;have HZ:=Lh (And.intro ((HJ.out.below hb).setA (hn.low (show s+1<=_ from HJ.out.sb.lt)) hr) (hn.low HJ.out.bel.size));have HJ:=Lh (HJ.out.below hb);clear hn hr hb;obtain ⟨y0,y1,y2,y3,y4,y5,y6,y7,y8,y9,y10⟩:=HJ.out.pb.k;have yl:=HJ.out.pb.lt;obtain ⟨f0,f1,f2,f3,f4,f5,f6,f7,f8,f9,f10⟩:=HJ.out.pb.free;obtain ⟨l0,l1,l2,l3,l4⟩:=HJ.out.qb.k;have ll:=HJ.out.qb.lt;obtain ⟨e0,e1,e2,e3,e4⟩:=HJ.out.qb.free))
  all_goals
   have HQ:=Lh HZ.out
   clear HZ HJ HC HT
   go_wp2_with fail
   go_meet
   exact ⟨rfl,rfl,_,HQ⟩
 case rest=>
  obtain ⟨rfl,rfl,Z,HQ⟩:=hcut
  clear y0 y1 y2 y3 y4 y5 y6 y7 y8 y9 y10 yl f0 f1 f2 f3 f4 f5 f6 f7 f8 f9 f10 l0 l1 l2 l3 l4 ll e0 e1 e2 e3 e4 HJ HC HT
  generalize wc=w4 at*
  have HNZ:=Lh HQ.out.2
  have HQ:=Lh HQ.out.1
  by_cases hE0:E=0
  ·subst hE0
   have HM:=Lh (show M=aqL l B from by rw [HM.out];exact if_pos rfl)
   clear HTZ
   cases B with
   | true=>
    have HM:=Lh (show M=⟨l.cs,if l.hv+1=l.cs.length then 3 else l.ph,l.hv+1,l.tr,l.wt⟩ from HM.out)
    obtain ⟨y0,y1,y2,y3,y4,y5,y6,y7,y8,y9,y10⟩:=HQ.out.pb.k
    have yl:=HQ.out.pb.lt
    obtain ⟨f0,f1,f2,f3,f4,f5,f6,f7,f8,f9,f10⟩:=HQ.out.pb.free
    obtain ⟨l0,l1,l2,l3,l4⟩:=HQ.out.qb.k
    have ll:=HQ.out.qb.lt
    obtain ⟨e0,e1,e2,e3,e4⟩:=HQ.out.qb.free
    obtain ⟨r0,r1,r2,r3,r4,r5,r6,r7,r8,r9,r10⟩:=HQ.out.rb.k
    have rl:=HQ.out.rb.lt
    obtain ⟨g0,g1,g2,g3,g4,g5,g6,g7,g8,g9,g10⟩:=HQ.out.rb.free
    obtain ⟨s0,s1,s2,s3,s4⟩:=HQ.out.sb.k
    have sl:=HQ.out.sb.lt
    obtain ⟨h0,h1,h2,h3,h4⟩:=HQ.out.sb.free
    have npr:¬p=r:=(by have:=HQ.out.ne;omega)
    have nrp:¬r=p:=fun e=>npr e.symm
    have npq:¬p=q:=(by have:=HQ.out.ne;omega)
    have nqp:¬q=p:=fun e=>npq e.symm
    have nps:¬p=s:=(by have:=HQ.out.ne;omega)
    have nsp:¬s=p:=fun e=>nps e.symm
    have nqr:¬q=r:=(by have:=HQ.out.ne;omega)
    have nrq:¬r=q:=fun e=>nqr e.symm
    have nqs:¬q=s:=(by have:=HQ.out.ne;omega)
    have nsq:¬s=q:=fun e=>nqs e.symm
    have nrs:¬r=s:=(by have:=HQ.out.ne;omega)
    have nsr:¬s=r:=fun e=>nrs e.symm
    go_upto_region 6 with (fail)
    clear y0 y1 y2 y3 y4 y5 y6 y7 y8 y9 y10 yl f0 f1 f2 f3 f4 f5 f6 f7 f8 f9 f10 l0 l1 l2 l3 l4 ll e0 e1 e2 e3 e4 r0 r1 r2 r3 r4 r5 r6 r7 r8 r9 r10 rl g0 g1 g2 g3 g4 g5 g6 g7 g8 g9 g10 s0 s1 s2 s3 s4 sl h0 h1 h2 h3 h4 npr nrp npq nqp nps nsp nqr nrq nqs nsq nrs nsr
    have HQ1:=Lh (HQ.out.setC (m:=⟨l.cs,l.ph,l.hv+1,l.tr,l.wt⟩) rfl (HQ.out.qb.setH (l.hv+1)))
    clear HQ hw1
    generalize (w4.setCell ⟨q,2,none⟩ (.int .i64 (l.hv+1)))=w5 at*
    obtain ⟨y0,y1,y2,y3,y4,y5,y6,y7,y8,y9,y10⟩:=HQ1.out.pb.k
    have yl:=HQ1.out.pb.lt
    obtain ⟨f0,f1,f2,f3,f4,f5,f6,f7,f8,f9,f10⟩:=HQ1.out.pb.free
    obtain ⟨l0,l1,l2,l3,l4⟩:=HQ1.out.qb.k
    have ll:=HQ1.out.qb.lt
    obtain ⟨e0,e1,e2,e3,e4⟩:=HQ1.out.qb.free
    obtain ⟨r0,r1,r2,r3,r4,r5,r6,r7,r8,r9,r10⟩:=HQ1.out.rb.k
    have rl:=HQ1.out.rb.lt
    obtain ⟨g0,g1,g2,g3,g4,g5,g6,g7,g8,g9,g10⟩:=HQ1.out.rb.free
    obtain ⟨s0,s1,s2,s3,s4⟩:=HQ1.out.sb.k
    have sl:=HQ1.out.sb.lt
    obtain ⟨h0,h1,h2,h3,h4⟩:=HQ1.out.sb.free
    have npr:¬p=r:=(by have:=HQ1.out.ne;omega)
    have nrp:¬r=p:=fun e=>npr e.symm
    have npq:¬p=q:=(by have:=HQ1.out.ne;omega)
    have nqp:¬q=p:=fun e=>npq e.symm
    have nps:¬p=s:=(by have:=HQ1.out.ne;omega)
    have nsp:¬s=p:=fun e=>nps e.symm
    have nqr:¬q=r:=(by have:=HQ1.out.ne;omega)
    have nrq:¬r=q:=fun e=>nqr e.symm
    have nqs:¬q=s:=(by have:=HQ1.out.ne;omega)
    have nsq:¬s=q:=fun e=>nqs e.symm
    have nrs:¬r=s:=(by have:=HQ1.out.ne;omega)
    have nsr:¬s=r:=fun e=>nrs e.symm
    by_cases hl:l.hv+1=(l.cs.length:Int)
    ·have HM:=Lh (show M=⟨l.cs,3,l.hv+1,l.tr,l.wt⟩ from by rw [HM.out,if_pos hl])
     have hb:(l.hv+1==(l.cs.length:Int))=true:=by simp [hl]
     clear hl
     go_upto_region 10 with (fail)
     clear y0 y1 y2 y3 y4 y5 y6 y7 y8 y9 y10 yl f0 f1 f2 f3 f4 f5 f6 f7 f8 f9 f10 l0 l1 l2 l3 l4 ll e0 e1 e2 e3 e4 r0 r1 r2 r3 r4 r5 r6 r7 r8 r9 r10 rl g0 g1 g2 g3 g4 g5 g6 g7 g8 g9 g10 s0 s1 s2 s3 s4 sl h0 h1 h2 h3 h4 npr nrp npq nqp nps nsp nqr nrq nqs nsq nrs nsr
     have HQ2:=Lh (HQ1.out.setC (m:=⟨l.cs,3,l.hv+1,l.tr,l.wt⟩) rfl (HQ1.out.qb.setP 3))
     rw [<-HM.out] at HQ2
     clear HQ1 hb
     generalize (w5.setCell ⟨q,1,none⟩ (.int .i64 3))=w6 at*
     have HF:=Lh (so_out (x:=0) (by have:=HQ2.out.ne;omega) (by have:=HQ2.out.ne;omega) HQ2.out.bel HNZ.out ⟨HQ2.out.ao.2.2.1,HQ2.out.ao.2.2.2⟩ HQ2.out.ar (fun lo h=>h) HQ2.out.fl ⟨HQ2.out.fo.2.2.1,HQ2.out.fo.2.2.2⟩:SE13o A w TA M 0 _ _).drew
     obtain ⟨y0,y1,y2,y3,y4,y5,y6,y7,y8,y9,y10⟩:=HQ2.out.pb.k
     have yl:=HQ2.out.pb.lt
     obtain ⟨f0,f1,f2,f3,f4,f5,f6,f7,f8,f9,f10⟩:=HQ2.out.pb.free
     obtain ⟨l0,l1,l2,l3,l4⟩:=HQ2.out.qb.k
     have ll:=HQ2.out.qb.lt
     obtain ⟨e0,e1,e2,e3,e4⟩:=HQ2.out.qb.free
     obtain ⟨r0,r1,r2,r3,r4,r5,r6,r7,r8,r9,r10⟩:=HQ2.out.rb.k
     have rl:=HQ2.out.rb.lt
     obtain ⟨g0,g1,g2,g3,g4,g5,g6,g7,g8,g9,g10⟩:=HQ2.out.rb.free
     obtain ⟨s0,s1,s2,s3,s4⟩:=HQ2.out.sb.k
     have sl:=HQ2.out.sb.lt
     obtain ⟨h0,h1,h2,h3,h4⟩:=HQ2.out.sb.free
     have npr:¬p=r:=(by have:=HQ2.out.ne;omega)
     have nrp:¬r=p:=fun e=>npr e.symm
     have npq:¬p=q:=(by have:=HQ2.out.ne;omega)
     have nqp:¬q=p:=fun e=>npq e.symm
     have nps:¬p=s:=(by have:=HQ2.out.ne;omega)
     have nsp:¬s=p:=fun e=>nps e.symm
     have nqr:¬q=r:=(by have:=HQ2.out.ne;omega)
     have nrq:¬r=q:=fun e=>nqr e.symm
     have nqs:¬q=s:=(by have:=HQ2.out.ne;omega)
     have nsq:¬s=q:=fun e=>nqs e.symm
     have nrs:¬r=s:=(by have:=HQ2.out.ne;omega)
     have nsr:¬s=r:=fun e=>nrs e.symm
     clear HQ2
     go_region
     all_goals
      go_wp2
      exact bodyPost_ret (v:=.tuple #[av TA Z,lv M A c,.int .i64 0]) (by simp only [results,Tryz.results129];go_simp <;> rfl) rfl HF.out
    ·have HM:=Lh (show M=⟨l.cs,l.ph,l.hv+1,l.tr,l.wt⟩ from by rw [HM.out,if_neg hl])
     have hb:(l.hv+1==(l.cs.length:Int))=false:=by simp [hl]
     clear hl
     go_upto_region 10 with (fail)
     clear y0 y1 y2 y3 y4 y5 y6 y7 y8 y9 y10 yl f0 f1 f2 f3 f4 f5 f6 f7 f8 f9 f10 l0 l1 l2 l3 l4 ll e0 e1 e2 e3 e4 r0 r1 r2 r3 r4 r5 r6 r7 r8 r9 r10 rl g0 g1 g2 g3 g4 g5 g6 g7 g8 g9 g10 s0 s1 s2 s3 s4 sl h0 h1 h2 h3 h4 npr nrp npq nqp nps nsp nqr nrq nqs nsq nrs nsr
     have HQ2:=Lh HQ1.out
     rw [<-HM.out] at HQ2
     clear HQ1 hb
     have HF:=Lh (so_out (x:=0) (by have:=HQ2.out.ne;omega) (by have:=HQ2.out.ne;omega) HQ2.out.bel HNZ.out ⟨HQ2.out.ao.2.2.1,HQ2.out.ao.2.2.2⟩ HQ2.out.ar (fun lo h=>h) HQ2.out.fl ⟨HQ2.out.fo.2.2.1,HQ2.out.fo.2.2.2⟩:SE13o A w TA M 0 _ _).drew
     obtain ⟨y0,y1,y2,y3,y4,y5,y6,y7,y8,y9,y10⟩:=HQ2.out.pb.k
     have yl:=HQ2.out.pb.lt
     obtain ⟨f0,f1,f2,f3,f4,f5,f6,f7,f8,f9,f10⟩:=HQ2.out.pb.free
     obtain ⟨l0,l1,l2,l3,l4⟩:=HQ2.out.qb.k
     have ll:=HQ2.out.qb.lt
     obtain ⟨e0,e1,e2,e3,e4⟩:=HQ2.out.qb.free
     obtain ⟨r0,r1,r2,r3,r4,r5,r6,r7,r8,r9,r10⟩:=HQ2.out.rb.k
     have rl:=HQ2.out.rb.lt
     obtain ⟨g0,g1,g2,g3,g4,g5,g6,g7,g8,g9,g10⟩:=HQ2.out.rb.free
     obtain ⟨s0,s1,s2,s3,s4⟩:=HQ2.out.sb.k
     have sl:=HQ2.out.sb.lt
     obtain ⟨h0,h1,h2,h3,h4⟩:=HQ2.out.sb.free
     have npr:¬p=r:=(by have:=HQ2.out.ne;omega)
     have nrp:¬r=p:=fun e=>npr e.symm
     have npq:¬p=q:=(by have:=HQ2.out.ne;omega)
     have nqp:¬q=p:=fun e=>npq e.symm
     have nps:¬p=s:=(by have:=HQ2.out.ne;omega)
     have nsp:¬s=p:=fun e=>nps e.symm
     have nqr:¬q=r:=(by have:=HQ2.out.ne;omega)
     have nrq:¬r=q:=fun e=>nqr e.symm
     have nqs:¬q=s:=(by have:=HQ2.out.ne;omega)
     have nsq:¬s=q:=fun e=>nqs e.symm
     have nrs:¬r=s:=(by have:=HQ2.out.ne;omega)
     have nsr:¬s=r:=fun e=>nrs e.symm
     clear HQ2
     go_region
     all_goals
      go_wp2
      exact bodyPost_ret (v:=.tuple #[av TA Z,lv M A c,.int .i64 0]) (by simp only [results,Tryz.results129];go_simp <;> rfl) rfl HF.out
   | false=>
    have HM:=Lh (show M=if 0<l.hv then ⟨l.cs,1,l.hv,l.tr,l.wt⟩ else l from HM.out)
    obtain ⟨y0,y1,y2,y3,y4,y5,y6,y7,y8,y9,y10⟩:=HQ.out.pb.k
    have yl:=HQ.out.pb.lt
    obtain ⟨f0,f1,f2,f3,f4,f5,f6,f7,f8,f9,f10⟩:=HQ.out.pb.free
    obtain ⟨l0,l1,l2,l3,l4⟩:=HQ.out.qb.k
    have ll:=HQ.out.qb.lt
    obtain ⟨e0,e1,e2,e3,e4⟩:=HQ.out.qb.free
    obtain ⟨r0,r1,r2,r3,r4,r5,r6,r7,r8,r9,r10⟩:=HQ.out.rb.k
    have rl:=HQ.out.rb.lt
    obtain ⟨g0,g1,g2,g3,g4,g5,g6,g7,g8,g9,g10⟩:=HQ.out.rb.free
    obtain ⟨s0,s1,s2,s3,s4⟩:=HQ.out.sb.k
    have sl:=HQ.out.sb.lt
    obtain ⟨h0,h1,h2,h3,h4⟩:=HQ.out.sb.free
    have npr:¬p=r:=(by have:=HQ.out.ne;omega)
    have nrp:¬r=p:=fun e=>npr e.symm
    have npq:¬p=q:=(by have:=HQ.out.ne;omega)
    have nqp:¬q=p:=fun e=>npq e.symm
    have nps:¬p=s:=(by have:=HQ.out.ne;omega)
    have nsp:¬s=p:=fun e=>nps e.symm
    have nqr:¬q=r:=(by have:=HQ.out.ne;omega)
    have nrq:¬r=q:=fun e=>nqr e.symm
    have nqs:¬q=s:=(by have:=HQ.out.ne;omega)
    have nsq:¬s=q:=fun e=>nqs e.symm
    have nrs:¬r=s:=(by have:=HQ.out.ne;omega)
    have nsr:¬s=r:=fun e=>nrs e.symm
    by_cases hl:0<l.hv
    ·have HM:=Lh (show M=⟨l.cs,1,l.hv,l.tr,l.wt⟩ from by rw [HM.out,if_pos hl])
     go_upto_region 10 with (fail)
     clear y0 y1 y2 y3 y4 y5 y6 y7 y8 y9 y10 yl f0 f1 f2 f3 f4 f5 f6 f7 f8 f9 f10 l0 l1 l2 l3 l4 ll e0 e1 e2 e3 e4 r0 r1 r2 r3 r4 r5 r6 r7 r8 r9 r10 rl g0 g1 g2 g3 g4 g5 g6 g7 g8 g9 g10 s0 s1 s2 s3 s4 sl h0 h1 h2 h3 h4 npr nrp npq nqp nps nsp nqr nrq nqs nsq nrs nsr hl
     have HQ2:=Lh (HQ.out.setC (m:=⟨l.cs,1,l.hv,l.tr,l.wt⟩) rfl (HQ.out.qb.setP 1))
     rw [<-HM.out] at HQ2
     clear HQ hw1
     generalize (w4.setCell ⟨q,1,none⟩ (.int .i64 1))=w6 at*
     have HF:=Lh (so_out (x:=0) (by have:=HQ2.out.ne;omega) (by have:=HQ2.out.ne;omega) HQ2.out.bel HNZ.out ⟨HQ2.out.ao.2.2.1,HQ2.out.ao.2.2.2⟩ HQ2.out.ar (fun lo h=>h) HQ2.out.fl ⟨HQ2.out.fo.2.2.1,HQ2.out.fo.2.2.2⟩:SE13o A w TA M 0 _ _).drew
     obtain ⟨y0,y1,y2,y3,y4,y5,y6,y7,y8,y9,y10⟩:=HQ2.out.pb.k
     have yl:=HQ2.out.pb.lt
     obtain ⟨f0,f1,f2,f3,f4,f5,f6,f7,f8,f9,f10⟩:=HQ2.out.pb.free
     obtain ⟨l0,l1,l2,l3,l4⟩:=HQ2.out.qb.k
     have ll:=HQ2.out.qb.lt
     obtain ⟨e0,e1,e2,e3,e4⟩:=HQ2.out.qb.free
     obtain ⟨r0,r1,r2,r3,r4,r5,r6,r7,r8,r9,r10⟩:=HQ2.out.rb.k
     have rl:=HQ2.out.rb.lt
     obtain ⟨g0,g1,g2,g3,g4,g5,g6,g7,g8,g9,g10⟩:=HQ2.out.rb.free
     obtain ⟨s0,s1,s2,s3,s4⟩:=HQ2.out.sb.k
     have sl:=HQ2.out.sb.lt
     obtain ⟨h0,h1,h2,h3,h4⟩:=HQ2.out.sb.free
     have npr:¬p=r:=(by have:=HQ2.out.ne;omega)
     have nrp:¬r=p:=fun e=>npr e.symm
     have npq:¬p=q:=(by have:=HQ2.out.ne;omega)
     have nqp:¬q=p:=fun e=>npq e.symm
     have nps:¬p=s:=(by have:=HQ2.out.ne;omega)
     have nsp:¬s=p:=fun e=>nps e.symm
     have nqr:¬q=r:=(by have:=HQ2.out.ne;omega)
     have nrq:¬r=q:=fun e=>nqr e.symm
     have nqs:¬q=s:=(by have:=HQ2.out.ne;omega)
     have nsq:¬s=q:=fun e=>nqs e.symm
     have nrs:¬r=s:=(by have:=HQ2.out.ne;omega)
     have nsr:¬s=r:=fun e=>nrs e.symm
     clear HQ2
     go_region
     all_goals
      go_wp2
      exact bodyPost_ret (v:=.tuple #[av TA Z,lv M A c,.int .i64 0]) (by simp only [results,Tryz.results129];go_simp <;> rfl) rfl HF.out
    ·have HM:=Lh (show M=l from by rw [HM.out,if_neg hl])
     go_upto_region 10 with (fail)
     clear y0 y1 y2 y3 y4 y5 y6 y7 y8 y9 y10 yl f0 f1 f2 f3 f4 f5 f6 f7 f8 f9 f10 l0 l1 l2 l3 l4 ll e0 e1 e2 e3 e4 r0 r1 r2 r3 r4 r5 r6 r7 r8 r9 r10 rl g0 g1 g2 g3 g4 g5 g6 g7 g8 g9 g10 s0 s1 s2 s3 s4 sl h0 h1 h2 h3 h4 npr nrp npq nqp nps nsp nqr nrq nqs nsq nrs nsr hl
     have HQ2:=Lh HQ.out
     rw [<-HM.out] at HQ2 ⊢
     clear HQ hw1
     have HF:=Lh (so_out (x:=0) (by have:=HQ2.out.ne;omega) (by have:=HQ2.out.ne;omega) HQ2.out.bel HNZ.out ⟨HQ2.out.ao.2.2.1,HQ2.out.ao.2.2.2⟩ HQ2.out.ar (fun lo h=>h) HQ2.out.fl ⟨HQ2.out.fo.2.2.1,HQ2.out.fo.2.2.2⟩:SE13o A w TA M 0 _ _).drew
     obtain ⟨y0,y1,y2,y3,y4,y5,y6,y7,y8,y9,y10⟩:=HQ2.out.pb.k
     have yl:=HQ2.out.pb.lt
     obtain ⟨f0,f1,f2,f3,f4,f5,f6,f7,f8,f9,f10⟩:=HQ2.out.pb.free
     obtain ⟨l0,l1,l2,l3,l4⟩:=HQ2.out.qb.k
     have ll:=HQ2.out.qb.lt
     obtain ⟨e0,e1,e2,e3,e4⟩:=HQ2.out.qb.free
     obtain ⟨r0,r1,r2,r3,r4,r5,r6,r7,r8,r9,r10⟩:=HQ2.out.rb.k
     have rl:=HQ2.out.rb.lt
     obtain ⟨g0,g1,g2,g3,g4,g5,g6,g7,g8,g9,g10⟩:=HQ2.out.rb.free
     obtain ⟨s0,s1,s2,s3,s4⟩:=HQ2.out.sb.k
     have sl:=HQ2.out.sb.lt
     obtain ⟨h0,h1,h2,h3,h4⟩:=HQ2.out.sb.free
     have npr:¬p=r:=(by have:=HQ2.out.ne;omega)
     have nrp:¬r=p:=fun e=>npr e.symm
     have npq:¬p=q:=(by have:=HQ2.out.ne;omega)
     have nqp:¬q=p:=fun e=>npq e.symm
     have nps:¬p=s:=(by have:=HQ2.out.ne;omega)
     have nsp:¬s=p:=fun e=>nps e.symm
     have nqr:¬q=r:=(by have:=HQ2.out.ne;omega)
     have nrq:¬r=q:=fun e=>nqr e.symm
     have nqs:¬q=s:=(by have:=HQ2.out.ne;omega)
     have nsq:¬s=q:=fun e=>nqs e.symm
     have nrs:¬r=s:=(by have:=HQ2.out.ne;omega)
     have nsr:¬s=r:=fun e=>nrs e.symm
     clear HQ2
     go_region
     all_goals
      go_wp2
      exact bodyPost_ret (v:=.tuple #[av TA Z,lv M A c,.int .i64 0]) (by simp only [results,Tryz.results129];go_simp <;> rfl) rfl HF.out
  ·have hne:(E != 0)=true:=bne_iff_ne.2 hE0
   have HM:=Lh (show M=zK from by rw [HM.out];exact if_neg hE0)
   have HTZ:=Lh (HTZ.out hE0)
   have HF:=Lh (show SE13o A w TA M E (.returned (.tuple #[av zA zAx,lv zK none 0,.int .i64 E])) (set5 (set11 w4 r zA zAx) s zK none 0) from by rw [HTZ.out,HM.out];exact so_out (by have:=HQ.out.ne;omega) (by have:=HQ.out.ne;omega) HQ.out.bel (zAx_nw _) ⟨aoff_z _,aoff_z _⟩ AR.zero (fun lo _=>nw_none) Fl.nil ⟨offb_0 _ _,offb_0 _ _⟩)
   obtain ⟨y0,y1,y2,y3,y4,y5,y6,y7,y8,y9,y10⟩:=HQ.out.pb.k
   have yl:=HQ.out.pb.lt
   obtain ⟨f0,f1,f2,f3,f4,f5,f6,f7,f8,f9,f10⟩:=HQ.out.pb.free
   obtain ⟨l0,l1,l2,l3,l4⟩:=HQ.out.qb.k
   have ll:=HQ.out.qb.lt
   obtain ⟨e0,e1,e2,e3,e4⟩:=HQ.out.qb.free
   obtain ⟨r0,r1,r2,r3,r4,r5,r6,r7,r8,r9,r10⟩:=HQ.out.rb.k
   have rl:=HQ.out.rb.lt
   obtain ⟨g0,g1,g2,g3,g4,g5,g6,g7,g8,g9,g10⟩:=HQ.out.rb.free
   obtain ⟨s0,s1,s2,s3,s4⟩:=HQ.out.sb.k
   have sl:=HQ.out.sb.lt
   obtain ⟨h0,h1,h2,h3,h4⟩:=HQ.out.sb.free
   have npr:¬p=r:=(by have:=HQ.out.ne;omega)
   have nrp:¬r=p:=fun e=>npr e.symm
   have npq:¬p=q:=(by have:=HQ.out.ne;omega)
   have nqp:¬q=p:=fun e=>npq e.symm
   have nps:¬p=s:=(by have:=HQ.out.ne;omega)
   have nsp:¬s=p:=fun e=>nps e.symm
   have nqr:¬q=r:=(by have:=HQ.out.ne;omega)
   have nrq:¬r=q:=fun e=>nqr e.symm
   have nqs:¬q=s:=(by have:=HQ.out.ne;omega)
   have nsq:¬s=q:=fun e=>nqs e.symm
   have nrs:¬r=s:=(by have:=HQ.out.ne;omega)
   have nsr:¬s=r:=fun e=>nrs e.symm
   clear HQ hE0
   go_wp2
   all_goals
    exact bodyPost_ret (v:=.tuple #[.agg #[.slice none 0 0,.slice none 0 0,.int .i64 0,.int .i64 0,.slice none 0 0,.int .i64 0,.slice none 0 0,.slice none 0 0,.int .i64 0,.int .i64 0,.int .i64 0],.agg #[.slice none 0 0,.int .i64 0,.int .i64 0,.int .i64 0,.int .i64 0],.int .i64 E]) (by simp only [results,Tryz.results129];go_simp <;> rfl) rfl HF.out
theorem jgive_any (a:Ar) (Y:Ax) (l:Lk) (A:Option Addr) (c:Nat) (t:Int) (w:World) (har:AR w w.heap.size a Y) (hf:Fl w w.heap.size (.slice A l.cs.length c) l.cs) (hw:a.Few) (hs:l.sm):Calls Tryz.prog 130 #[av a Y,lv l A c,.int .i64 t] w (SE13o A w (ulA a (ctF l.cs (l.hv - 1)) t) (gbR a l t) (gbE a l t)):=by
 obtain ⟨p,hp⟩:∃ p,p=w.heap.size:=⟨_,rfl⟩
 obtain ⟨q,hq⟩:∃ q,q=w.heap.size+1:=⟨_,rfl⟩
 obtain ⟨r,hr⟩:∃ r,r=w.heap.size+2:=⟨_,rfl⟩
 obtain ⟨s,hss⟩:∃ s,s=w.heap.size+3:=⟨_,rfl⟩
 have H0:=Lh (show Js w p q r s a Y l A c _ from by rw [hss,hr,hq,hp];exact Js.start har hf)
 have HPP:=Lh (And.intro hp (And.intro hq (And.intro hr hss)))
 have HC:=Lh (fun W (k:Js w p q r s a Y l A c W)=>jcell_any l A c (l.hv - 1) W k.fl)
 obtain ⟨k,hk⟩:∃ k,k=ctF l.cs (l.hv - 1):=⟨_,rfl⟩
 have HT:=Lh (fun W (h:Js w p q r s a Y l A c W)=>aunlock_any a Y k t W h.ar hw)
 obtain ⟨E,hE⟩:∃ E,E=gbE a l t:=⟨_,rfl⟩
 obtain ⟨M,hM⟩:∃ M,M=gbR a l t:=⟨_,rfl⟩
 obtain ⟨TA,hTA⟩:∃ x,x=ulA a k t:=⟨_,rfl⟩
 have HM0:=Lh (show M=if E=0 then gbL l else zK from by rw [hM,hE];rfl)
 have HTZ:=Lh (show E≠0->TA=zA from fun h=>by rw [hTA];exact if_neg (by rw [hE] at h;unfold gbE at h;rw [<-hk] at h;exact h))
 rw [<-hk] at HC
 rw [<-hTA,show owE a k t=E by rw [hE,hk];rfl] at HT
 rw [<-hE,<-hM,<-hk,<-hTA]
 have hw0:IntKind.i64.wrap (l.hv - 1)=l.hv - 1:=IntWalk.i64_in _ (by have:=hs.1;omega)
 obtain ⟨x,hx⟩:∃ x,x=l.hv - 1:=⟨_,rfl⟩
 have hw1:IntKind.i64.wrap (l.hv - 1)=x:=by rw [hx];exact hw0
 have HX:=Lh hx
 rw [<-hx] at HC
 have HSM:=Lh hs.2.1
 clear hp hq hr hss har hf hw hs hk hE hM hTA hw0 hx
 go_enter Tryz.func130,Tryz.ntmps130
 go_upto_region 1 with (fail)
 rw [<-HPP.out.2.2.2,<-HPP.out.2.2.1,<-HPP.out.2.1,<-HPP.out.1]
 generalize ((((w.alloc (.cells #[.slice Y.A a.sl.length Y.c,.slice Y.A2 a.st.length Y.c2,.int .i64 a.ow,.int .i64 a.cap,.slice Y.A3 a.dl.length Y.c3,.int .i64 a.dir.vn,.slice Y.D.A a.dir.l.length Y.D.c,.slice Y.D.A2 a.dir.F.length Y.D.c2,.int .i64 a.ep,.int .i64 a.ck,.int .i64 a.ni] 36)).alloc (.cells #[.slice A l.cs.length c,.int .i64 l.ph,.int .i64 l.hv,.int .i64 l.tr,.int .i64 l.wt] 45)).alloc (.cells #[.slice none 0 0,.slice none 0 0,.int .i64 0,.int .i64 0,.slice none 0 0,.int .i64 0,.slice none 0 0,.slice none 0 0,.int .i64 0,.int .i64 0,.int .i64 0] 36)).alloc (.cells #[.slice none 0 0,.int .i64 0,.int .i64 0,.int .i64 0,.int .i64 0] 45))=w1 at*
 have HJ:=Lh H0.out.drew
 have HS:=Lh HJ.out.cl
 obtain ⟨y0,y1,y2,y3,y4,y5,y6,y7,y8,y9,y10⟩:=H0.out.pb.k
 have yl:=H0.out.pb.lt
 obtain ⟨f0,f1,f2,f3,f4,f5,f6,f7,f8,f9,f10⟩:=H0.out.pb.free
 obtain ⟨l0,l1,l2,l3,l4⟩:=H0.out.qb.k
 have ll:=H0.out.qb.lt
 obtain ⟨e0,e1,e2,e3,e4⟩:=H0.out.qb.free
 go_cut [9] (fun s9 wx=>s9=.int .i64 E/\∃ Z,Hid (Js w p q r s TA Z l A c wx/\Z.nw w.heap.size))
 case first=>
  go_region_law (first
   | (go_simp;go_at_call 151;(with_reducible refine (HC.out _ HJ.out).mono ?_);rintro e w2 ⟨rfl,hb⟩;have HJ:=Lh (HJ.out.below hb);clear hb;obtain ⟨y0,y1,y2,y3,y4,y5,y6,y7,y8,y9,y10⟩:=HJ.out.pb.k;have yl:=HJ.out.pb.lt;obtain ⟨f0,f1,f2,f3,f4,f5,f6,f7,f8,f9,f10⟩:=HJ.out.pb.free;obtain ⟨l0,l1,l2,l3,l4⟩:=HJ.out.qb.k;have ll:=HJ.out.qb.lt;obtain ⟨e0,e1,e2,e3,e4⟩:=HJ.out.qb.free)
   | (go_simp;go_at_call 152;(with_reducible refine (HT.out _ HJ.out).mono ?_);rintro e w3 ⟨Z,rfl,hn,hr,hb⟩;have HZ:=Lh (And.intro ((HJ.out.below hb).setA (hn.low (show s+1<=_ from HJ.out.sb.lt)) hr) (hn.low HJ.out.bel.size));have HJ:=Lh (HJ.out.below hb);clear hn hr hb;obtain ⟨y0,y1,y2,y3,y4,y5,y6,y7,y8,y9,y10⟩:=HJ.out.pb.k;have yl:=HJ.out.pb.lt;obtain ⟨f0,f1,f2,f3,f4,f5,f6,f7,f8,f9,f10⟩:=HJ.out.pb.free;obtain ⟨l0,l1,l2,l3,l4⟩:=HJ.out.qb.k;have ll:=HJ.out.qb.lt;obtain ⟨e0,e1,e2,e3,e4⟩:=HJ.out.qb.free))
  all_goals
   have HQ:=Lh HZ.out
   clear HZ HJ HC HT
   go_wp2_with fail
   go_meet
   exact ⟨rfl,_,HQ⟩
 case rest=>
  obtain ⟨rfl,Z,HQ⟩:=hcut
  clear y0 y1 y2 y3 y4 y5 y6 y7 y8 y9 y10 yl f0 f1 f2 f3 f4 f5 f6 f7 f8 f9 f10 l0 l1 l2 l3 l4 ll e0 e1 e2 e3 e4 HJ HC HT
  generalize wc=w4 at*
  have HNZ:=Lh HQ.out.2
  have HQ:=Lh HQ.out.1
  by_cases hE0:E=0
  ·subst hE0
   have HM:=Lh (show M=if 0<x then ⟨l.cs,l.ph,x,l.tr,l.wt⟩ else if l.ph=4 then ⟨l.cs,5,x,l.tr,l.wt⟩ else boL ⟨l.cs,l.ph,x,l.tr,l.wt⟩ from by rw [HX.out,HM0.out];exact if_pos rfl)
   clear HTZ HM0
   obtain ⟨y0,y1,y2,y3,y4,y5,y6,y7,y8,y9,y10⟩:=HQ.out.pb.k
   have yl:=HQ.out.pb.lt
   obtain ⟨f0,f1,f2,f3,f4,f5,f6,f7,f8,f9,f10⟩:=HQ.out.pb.free
   obtain ⟨l0,l1,l2,l3,l4⟩:=HQ.out.qb.k
   have ll:=HQ.out.qb.lt
   obtain ⟨e0,e1,e2,e3,e4⟩:=HQ.out.qb.free
   obtain ⟨r0,r1,r2,r3,r4,r5,r6,r7,r8,r9,r10⟩:=HQ.out.rb.k
   have rl:=HQ.out.rb.lt
   obtain ⟨g0,g1,g2,g3,g4,g5,g6,g7,g8,g9,g10⟩:=HQ.out.rb.free
   obtain ⟨s0,s1,s2,s3,s4⟩:=HQ.out.sb.k
   have sl:=HQ.out.sb.lt
   obtain ⟨h0,h1,h2,h3,h4⟩:=HQ.out.sb.free
   have npr:¬p=r:=(by have:=HQ.out.ne;omega)
   have nrp:¬r=p:=fun e=>npr e.symm
   have npq:¬p=q:=(by have:=HQ.out.ne;omega)
   have nqp:¬q=p:=fun e=>npq e.symm
   have nps:¬p=s:=(by have:=HQ.out.ne;omega)
   have nsp:¬s=p:=fun e=>nps e.symm
   have nqr:¬q=r:=(by have:=HQ.out.ne;omega)
   have nrq:¬r=q:=fun e=>nqr e.symm
   have nqs:¬q=s:=(by have:=HQ.out.ne;omega)
   have nsq:¬s=q:=fun e=>nqs e.symm
   have nrs:¬r=s:=(by have:=HQ.out.ne;omega)
   have nsr:¬s=r:=fun e=>nrs e.symm
   go_upto_region 5 with (fail)
   clear y0 y1 y2 y3 y4 y5 y6 y7 y8 y9 y10 yl f0 f1 f2 f3 f4 f5 f6 f7 f8 f9 f10 l0 l1 l2 l3 l4 ll e0 e1 e2 e3 e4 r0 r1 r2 r3 r4 r5 r6 r7 r8 r9 r10 rl g0 g1 g2 g3 g4 g5 g6 g7 g8 g9 g10 s0 s1 s2 s3 s4 sl h0 h1 h2 h3 h4 npr nrp npq nqp nps nsp nqr nrq nqs nsq nrs nsr
   have HQ1:=Lh (HQ.out.setC (m:=⟨l.cs,l.ph,x,l.tr,l.wt⟩) rfl (HQ.out.qb.setH x))
   clear HQ hw1
   generalize (w4.setCell ⟨q,2,none⟩ (.int .i64 x))=w5 at*
   obtain ⟨y0,y1,y2,y3,y4,y5,y6,y7,y8,y9,y10⟩:=HQ1.out.pb.k
   have yl:=HQ1.out.pb.lt
   obtain ⟨f0,f1,f2,f3,f4,f5,f6,f7,f8,f9,f10⟩:=HQ1.out.pb.free
   obtain ⟨l0,l1,l2,l3,l4⟩:=HQ1.out.qb.k
   have ll:=HQ1.out.qb.lt
   obtain ⟨e0,e1,e2,e3,e4⟩:=HQ1.out.qb.free
   obtain ⟨r0,r1,r2,r3,r4,r5,r6,r7,r8,r9,r10⟩:=HQ1.out.rb.k
   have rl:=HQ1.out.rb.lt
   obtain ⟨g0,g1,g2,g3,g4,g5,g6,g7,g8,g9,g10⟩:=HQ1.out.rb.free
   obtain ⟨s0,s1,s2,s3,s4⟩:=HQ1.out.sb.k
   have sl:=HQ1.out.sb.lt
   obtain ⟨h0,h1,h2,h3,h4⟩:=HQ1.out.sb.free
   have npr:¬p=r:=(by have:=HQ1.out.ne;omega)
   have nrp:¬r=p:=fun e=>npr e.symm
   have npq:¬p=q:=(by have:=HQ1.out.ne;omega)
   have nqp:¬q=p:=fun e=>npq e.symm
   have nps:¬p=s:=(by have:=HQ1.out.ne;omega)
   have nsp:¬s=p:=fun e=>nps e.symm
   have nqr:¬q=r:=(by have:=HQ1.out.ne;omega)
   have nrq:¬r=q:=fun e=>nqr e.symm
   have nqs:¬q=s:=(by have:=HQ1.out.ne;omega)
   have nsq:¬s=q:=fun e=>nqs e.symm
   have nrs:¬r=s:=(by have:=HQ1.out.ne;omega)
   have nsr:¬s=r:=fun e=>nrs e.symm
   by_cases hl:0<x
   ·have HM:=Lh (show M=⟨l.cs,l.ph,x,l.tr,l.wt⟩ from by rw [HM.out,if_pos hl])
    go_upto_region 6 with (fail)
    clear y0 y1 y2 y3 y4 y5 y6 y7 y8 y9 y10 yl f0 f1 f2 f3 f4 f5 f6 f7 f8 f9 f10 l0 l1 l2 l3 l4 ll e0 e1 e2 e3 e4 r0 r1 r2 r3 r4 r5 r6 r7 r8 r9 r10 rl g0 g1 g2 g3 g4 g5 g6 g7 g8 g9 g10 s0 s1 s2 s3 s4 sl h0 h1 h2 h3 h4 npr nrp npq nqp nps nsp nqr nrq nqs nsq nrs nsr hl
    have HQ2:=Lh HQ1.out
    rw [<-HM.out] at HQ2
    clear HQ1
    have HF:=Lh (so_out (x:=0) (by have:=HQ2.out.ne;omega) (by have:=HQ2.out.ne;omega) HQ2.out.bel HNZ.out ⟨HQ2.out.ao.2.2.1,HQ2.out.ao.2.2.2⟩ HQ2.out.ar (fun lo h=>h) HQ2.out.fl ⟨HQ2.out.fo.2.2.1,HQ2.out.fo.2.2.2⟩:SE13o A w TA M 0 _ _).drew
    obtain ⟨y0,y1,y2,y3,y4,y5,y6,y7,y8,y9,y10⟩:=HQ2.out.pb.k
    have yl:=HQ2.out.pb.lt
    obtain ⟨f0,f1,f2,f3,f4,f5,f6,f7,f8,f9,f10⟩:=HQ2.out.pb.free
    obtain ⟨l0,l1,l2,l3,l4⟩:=HQ2.out.qb.k
    have ll:=HQ2.out.qb.lt
    obtain ⟨e0,e1,e2,e3,e4⟩:=HQ2.out.qb.free
    obtain ⟨r0,r1,r2,r3,r4,r5,r6,r7,r8,r9,r10⟩:=HQ2.out.rb.k
    have rl:=HQ2.out.rb.lt
    obtain ⟨g0,g1,g2,g3,g4,g5,g6,g7,g8,g9,g10⟩:=HQ2.out.rb.free
    obtain ⟨s0,s1,s2,s3,s4⟩:=HQ2.out.sb.k
    have sl:=HQ2.out.sb.lt
    obtain ⟨h0,h1,h2,h3,h4⟩:=HQ2.out.sb.free
    have npr:¬p=r:=(by have:=HQ2.out.ne;omega)
    have nrp:¬r=p:=fun e=>npr e.symm
    have npq:¬p=q:=(by have:=HQ2.out.ne;omega)
    have nqp:¬q=p:=fun e=>npq e.symm
    have nps:¬p=s:=(by have:=HQ2.out.ne;omega)
    have nsp:¬s=p:=fun e=>nps e.symm
    have nqr:¬q=r:=(by have:=HQ2.out.ne;omega)
    have nrq:¬r=q:=fun e=>nqr e.symm
    have nqs:¬q=s:=(by have:=HQ2.out.ne;omega)
    have nsq:¬s=q:=fun e=>nqs e.symm
    have nrs:¬r=s:=(by have:=HQ2.out.ne;omega)
    have nsr:¬s=r:=fun e=>nrs e.symm
    clear HQ2
    go_region
    all_goals
     go_wp2
     exact bodyPost_ret (v:=.tuple #[av TA Z,lv M A c,.int .i64 0]) (by simp only [results,Tryz.results130];go_simp <;> rfl) rfl HF.out
   ·have HM:=Lh (show M=if l.ph=4 then ⟨l.cs,5,x,l.tr,l.wt⟩ else boL ⟨l.cs,l.ph,x,l.tr,l.wt⟩ from by rw [HM.out,if_neg hl])
    by_cases h4:l.ph=4
    ·have HM:=Lh (show M=⟨l.cs,5,x,l.tr,l.wt⟩ from by rw [HM.out,if_pos h4])
     have hb4:(l.ph==4)=true:=by simp [h4]
     clear h4
     go_upto_region 10 with (fail)
     clear y0 y1 y2 y3 y4 y5 y6 y7 y8 y9 y10 yl f0 f1 f2 f3 f4 f5 f6 f7 f8 f9 f10 l0 l1 l2 l3 l4 ll e0 e1 e2 e3 e4 r0 r1 r2 r3 r4 r5 r6 r7 r8 r9 r10 rl g0 g1 g2 g3 g4 g5 g6 g7 g8 g9 g10 s0 s1 s2 s3 s4 sl h0 h1 h2 h3 h4 npr nrp npq nqp nps nsp nqr nrq nqs nsq nrs nsr hl hb4
     have HQ2:=Lh (HQ1.out.setC (m:=⟨l.cs,5,x,l.tr,l.wt⟩) rfl (HQ1.out.qb.setP 5))
     rw [<-HM.out] at HQ2
     clear HQ1
     generalize (w5.setCell ⟨q,1,none⟩ (.int .i64 5))=w6 at*
     have HF:=Lh (so_out (x:=0) (by have:=HQ2.out.ne;omega) (by have:=HQ2.out.ne;omega) HQ2.out.bel HNZ.out ⟨HQ2.out.ao.2.2.1,HQ2.out.ao.2.2.2⟩ HQ2.out.ar (fun lo h=>h) HQ2.out.fl ⟨HQ2.out.fo.2.2.1,HQ2.out.fo.2.2.2⟩:SE13o A w TA M 0 _ _).drew
     obtain ⟨y0,y1,y2,y3,y4,y5,y6,y7,y8,y9,y10⟩:=HQ2.out.pb.k
     have yl:=HQ2.out.pb.lt
     obtain ⟨f0,f1,f2,f3,f4,f5,f6,f7,f8,f9,f10⟩:=HQ2.out.pb.free
     obtain ⟨l0,l1,l2,l3,l4⟩:=HQ2.out.qb.k
     have ll:=HQ2.out.qb.lt
     obtain ⟨e0,e1,e2,e3,e4⟩:=HQ2.out.qb.free
     obtain ⟨r0,r1,r2,r3,r4,r5,r6,r7,r8,r9,r10⟩:=HQ2.out.rb.k
     have rl:=HQ2.out.rb.lt
     obtain ⟨g0,g1,g2,g3,g4,g5,g6,g7,g8,g9,g10⟩:=HQ2.out.rb.free
     obtain ⟨s0,s1,s2,s3,s4⟩:=HQ2.out.sb.k
     have sl:=HQ2.out.sb.lt
     obtain ⟨h0,h1,h2,h3,h4⟩:=HQ2.out.sb.free
     have npr:¬p=r:=(by have:=HQ2.out.ne;omega)
     have nrp:¬r=p:=fun e=>npr e.symm
     have npq:¬p=q:=(by have:=HQ2.out.ne;omega)
     have nqp:¬q=p:=fun e=>npq e.symm
     have nps:¬p=s:=(by have:=HQ2.out.ne;omega)
     have nsp:¬s=p:=fun e=>nps e.symm
     have nqr:¬q=r:=(by have:=HQ2.out.ne;omega)
     have nrq:¬r=q:=fun e=>nqr e.symm
     have nqs:¬q=s:=(by have:=HQ2.out.ne;omega)
     have nsq:¬s=q:=fun e=>nqs e.symm
     have nrs:¬r=s:=(by have:=HQ2.out.ne;omega)
     have nsr:¬s=r:=fun e=>nrs e.symm
     clear HQ2
     go_region
     all_goals
      go_wp2
      exact bodyPost_ret (v:=.tuple #[av TA Z,lv M A c,.int .i64 0]) (by simp only [results,Tryz.results130];go_simp <;> rfl) rfl HF.out
    ·have HM:=Lh (show M=boL ⟨l.cs,l.ph,x,l.tr,l.wt⟩ from by rw [HM.out,if_neg h4])
     have hb4:(l.ph==4)=false:=by simp [h4]
     have HBO:=Lh (fun W=>jback_any ⟨l.cs,l.ph,x,l.tr,l.wt⟩ A c W HSM.out)
     rw [<-HM.out] at HBO
     clear h4
     go_wp2_with fail
     clear y0 y1 y2 y3 y4 y5 y6 y7 y8 y9 y10 yl f0 f1 f2 f3 f4 f5 f6 f7 f8 f9 f10 l0 l1 l2 l3 l4 ll e0 e1 e2 e3 e4 r0 r1 r2 r3 r4 r5 r6 r7 r8 r9 r10 rl g0 g1 g2 g3 g4 g5 g6 g7 g8 g9 g10 s0 s1 s2 s3 s4 sl h0 h1 h2 h3 h4 npr nrp npq nqp nps nsp nqr nrq nqs nsq nrs nsr hl hb4
     refine (HBO.out _).mono ?_
     rintro e w6 ⟨rfl,hb⟩
     have HQ2:=Lh (HQ1.out.below hb)
     have HMC:=Lh (show M.cs=l.cs from by rw [HM.out];rfl)
     have HQ3:=Lh (show Js w p q r s TA Z M A c (((((w6.setCell ⟨q,0,none⟩ (.slice A M.cs.length c)).setCell ⟨q,1,none⟩ (.int .i64 M.ph)).setCell ⟨q,2,none⟩ (.int .i64 M.hv)).setCell ⟨q,3,none⟩ (.int .i64 M.tr)).setCell ⟨q,4,none⟩ (.int .i64 M.wt)) from HQ2.out.putL (m:=M) (A':=A) (c':=c) (by rw [HMC.out];exact HQ2.out.fo) (by rw [HMC.out];exact HQ2.out.fl))
     clear hb HQ1 HBO
     obtain ⟨y0,y1,y2,y3,y4,y5,y6,y7,y8,y9,y10⟩:=HQ2.out.pb.k
     have yl:=HQ2.out.pb.lt
     obtain ⟨f0,f1,f2,f3,f4,f5,f6,f7,f8,f9,f10⟩:=HQ2.out.pb.free
     obtain ⟨l0,l1,l2,l3,l4⟩:=HQ2.out.qb.k
     have ll:=HQ2.out.qb.lt
     obtain ⟨e0,e1,e2,e3,e4⟩:=HQ2.out.qb.free
     obtain ⟨r0,r1,r2,r3,r4,r5,r6,r7,r8,r9,r10⟩:=HQ2.out.rb.k
     have rl:=HQ2.out.rb.lt
     obtain ⟨g0,g1,g2,g3,g4,g5,g6,g7,g8,g9,g10⟩:=HQ2.out.rb.free
     obtain ⟨s0,s1,s2,s3,s4⟩:=HQ2.out.sb.k
     have sl:=HQ2.out.sb.lt
     obtain ⟨h0,h1,h2,h3,h4⟩:=HQ2.out.sb.free
     have npr:¬p=r:=(by have:=HQ2.out.ne;omega)
     have nrp:¬r=p:=fun e=>npr e.symm
     have npq:¬p=q:=(by have:=HQ2.out.ne;omega)
     have nqp:¬q=p:=fun e=>npq e.symm
     have nps:¬p=s:=(by have:=HQ2.out.ne;omega)
     have nsp:¬s=p:=fun e=>nps e.symm
     have nqr:¬q=r:=(by have:=HQ2.out.ne;omega)
     have nrq:¬r=q:=fun e=>nqr e.symm
     have nqs:¬q=s:=(by have:=HQ2.out.ne;omega)
     have nsq:¬s=q:=fun e=>nqs e.symm
     have nrs:¬r=s:=(by have:=HQ2.out.ne;omega)
     have nsr:¬s=r:=fun e=>nrs e.symm
     go_upto_region 10 with (fail)
     clear y0 y1 y2 y3 y4 y5 y6 y7 y8 y9 y10 yl f0 f1 f2 f3 f4 f5 f6 f7 f8 f9 f10 l0 l1 l2 l3 l4 ll e0 e1 e2 e3 e4 r0 r1 r2 r3 r4 r5 r6 r7 r8 r9 r10 rl g0 g1 g2 g3 g4 g5 g6 g7 g8 g9 g10 s0 s1 s2 s3 s4 sl h0 h1 h2 h3 h4 npr nrp npq nqp nps nsp nqr nrq nqs nsq nrs nsr HQ2
     have HQ2:=Lh HQ3.out
     clear HQ3
     generalize (((((w6.setCell ⟨q,0,none⟩ (.slice A M.cs.length c)).setCell ⟨q,1,none⟩ (.int .i64 M.ph)).setCell ⟨q,2,none⟩ (.int .i64 M.hv)).setCell ⟨q,3,none⟩ (.int .i64 M.tr)).setCell ⟨q,4,none⟩ (.int .i64 M.wt))=w7 at*
     have HF:=Lh (so_out (x:=0) (by have:=HQ2.out.ne;omega) (by have:=HQ2.out.ne;omega) HQ2.out.bel HNZ.out ⟨HQ2.out.ao.2.2.1,HQ2.out.ao.2.2.2⟩ HQ2.out.ar (fun lo h=>h) HQ2.out.fl ⟨HQ2.out.fo.2.2.1,HQ2.out.fo.2.2.2⟩:SE13o A w TA M 0 _ _).drew
     obtain ⟨y0,y1,y2,y3,y4,y5,y6,y7,y8,y9,y10⟩:=HQ2.out.pb.k
     have yl:=HQ2.out.pb.lt
     obtain ⟨f0,f1,f2,f3,f4,f5,f6,f7,f8,f9,f10⟩:=HQ2.out.pb.free
     obtain ⟨l0,l1,l2,l3,l4⟩:=HQ2.out.qb.k
     have ll:=HQ2.out.qb.lt
     obtain ⟨e0,e1,e2,e3,e4⟩:=HQ2.out.qb.free
     obtain ⟨r0,r1,r2,r3,r4,r5,r6,r7,r8,r9,r10⟩:=HQ2.out.rb.k
     have rl:=HQ2.out.rb.lt
     obtain ⟨g0,g1,g2,g3,g4,g5,g6,g7,g8,g9,g10⟩:=HQ2.out.rb.free
     obtain ⟨s0,s1,s2,s3,s4⟩:=HQ2.out.sb.k
     have sl:=HQ2.out.sb.lt
     obtain ⟨h0,h1,h2,h3,h4⟩:=HQ2.out.sb.free
     have npr:¬p=r:=(by have:=HQ2.out.ne;omega)
     have nrp:¬r=p:=fun e=>npr e.symm
     have npq:¬p=q:=(by have:=HQ2.out.ne;omega)
     have nqp:¬q=p:=fun e=>npq e.symm
     have nps:¬p=s:=(by have:=HQ2.out.ne;omega)
     have nsp:¬s=p:=fun e=>nps e.symm
     have nqr:¬q=r:=(by have:=HQ2.out.ne;omega)
     have nrq:¬r=q:=fun e=>nqr e.symm
     have nqs:¬q=s:=(by have:=HQ2.out.ne;omega)
     have nsq:¬s=q:=fun e=>nqs e.symm
     have nrs:¬r=s:=(by have:=HQ2.out.ne;omega)
     have nsr:¬s=r:=fun e=>nrs e.symm
     clear HQ2
     go_region
     all_goals
      go_wp2
      exact bodyPost_ret (v:=.tuple #[av TA Z,lv M A c,.int .i64 0]) (by simp only [results,Tryz.results130];go_simp <;> rfl) rfl HF.out
  ·have hne:(E != 0)=true:=bne_iff_ne.2 hE0
   have HM:=Lh (show M=zK from by rw [HM0.out];exact if_neg hE0)
   have HTZ:=Lh (HTZ.out hE0)
   have HF:=Lh (show SE13o A w TA M E (.returned (.tuple #[av zA zAx,lv zK none 0,.int .i64 E])) (set5 (set11 w4 r zA zAx) s zK none 0) from by rw [HTZ.out,HM.out];exact so_out (by have:=HQ.out.ne;omega) (by have:=HQ.out.ne;omega) HQ.out.bel (zAx_nw _) ⟨aoff_z _,aoff_z _⟩ AR.zero (fun lo _=>nw_none) Fl.nil ⟨offb_0 _ _,offb_0 _ _⟩)
   obtain ⟨y0,y1,y2,y3,y4,y5,y6,y7,y8,y9,y10⟩:=HQ.out.pb.k
   have yl:=HQ.out.pb.lt
   obtain ⟨f0,f1,f2,f3,f4,f5,f6,f7,f8,f9,f10⟩:=HQ.out.pb.free
   obtain ⟨l0,l1,l2,l3,l4⟩:=HQ.out.qb.k
   have ll:=HQ.out.qb.lt
   obtain ⟨e0,e1,e2,e3,e4⟩:=HQ.out.qb.free
   obtain ⟨r0,r1,r2,r3,r4,r5,r6,r7,r8,r9,r10⟩:=HQ.out.rb.k
   have rl:=HQ.out.rb.lt
   obtain ⟨g0,g1,g2,g3,g4,g5,g6,g7,g8,g9,g10⟩:=HQ.out.rb.free
   obtain ⟨s0,s1,s2,s3,s4⟩:=HQ.out.sb.k
   have sl:=HQ.out.sb.lt
   obtain ⟨h0,h1,h2,h3,h4⟩:=HQ.out.sb.free
   have npr:¬p=r:=(by have:=HQ.out.ne;omega)
   have nrp:¬r=p:=fun e=>npr e.symm
   have npq:¬p=q:=(by have:=HQ.out.ne;omega)
   have nqp:¬q=p:=fun e=>npq e.symm
   have nps:¬p=s:=(by have:=HQ.out.ne;omega)
   have nsp:¬s=p:=fun e=>nps e.symm
   have nqr:¬q=r:=(by have:=HQ.out.ne;omega)
   have nrq:¬r=q:=fun e=>nqr e.symm
   have nqs:¬q=s:=(by have:=HQ.out.ne;omega)
   have nsq:¬s=q:=fun e=>nqs e.symm
   have nrs:¬r=s:=(by have:=HQ.out.ne;omega)
   have nsr:¬s=r:=fun e=>nrs e.symm
   clear HQ hE0
   go_wp2
   all_goals
    exact bodyPost_ret (v:=.tuple #[.agg #[.slice none 0 0,.slice none 0 0,.int .i64 0,.int .i64 0,.slice none 0 0,.int .i64 0,.slice none 0 0,.slice none 0 0,.int .i64 0,.int .i64 0,.int .i64 0],.agg #[.slice none 0 0,.int .i64 0,.int .i64 0,.int .i64 0,.int .i64 0],.int .i64 E]) (by simp only [results,Tryz.results130];go_simp <;> rfl) rfl HF.out
theorem SE13o.of {A0:Option Addr} {w w' : World} {a:Ar} {l:Lk} {x:Int} {e:Ending} (h:SE13o A0 w a l x e w'):∃ Y A c,e=.returned (.tuple #[av a Y,lv l A c,.int .i64 x])/\Y.nw w.heap.size/\(∀ lo,Nw lo A0->Nw lo A)/\AR w' w'.heap.size a Y/\Fl w' w'.heap.size (.slice A l.cs.length c) l.cs/\Below w.heap.size w w':=h
theorem jstep_any (a:Ar) (Y:Ax) (l:Lk) (A:Option Addr) (c:Nat) (t:Int) (w:World) (har:AR w w.heap.size a Y) (hf:Fl w w.heap.size (.slice A l.cs.length c) l.cs) (hw:a.Few) (hs:l.sm):Calls Tryz.prog 110 #[av a Y,lv l A c,.int .i64 t] w (SE13 w (stA13 a l t) (stL13 a l t) (stE13 a l t)):=by
 obtain ⟨p,hp⟩:∃ p,p=w.heap.size:=⟨_,rfl⟩
 obtain ⟨q,hq⟩:∃ q,q=w.heap.size+1:=⟨_,rfl⟩
 obtain ⟨r,hr⟩:∃ r,r=w.heap.size+2:=⟨_,rfl⟩
 obtain ⟨s,hss⟩:∃ s,s=w.heap.size+3:=⟨_,rfl⟩
 have H0:=Lh (show Js w p q r s a Y l A c _ from by rw [hss,hr,hq,hp];exact Js.start har hf)
 have HPP:=Lh (And.intro hp (And.intro hq (And.intro hr hss)))
 have HCL:=Lh (fun W (k:Js w p q r s a Y l A c W)=>(niclone_any A l.cs.length c l.cs W k.fl (by have:=hs.2.2.2;omega)).mono fun _ _ h=>niclp_flv h)
 have HA:=Lh (fun A' c' W (k:Js w p q r s a Y l A' c' W)=>(jacq_any a Y l A' c' t W k.ar k.fl hw hs).mono fun _ _ h=>SE13o.of h)
 have HG:=Lh (fun A' c' W (k:Js w p q r s a Y l A' c' W)=>(jgive_any a Y l A' c' t W k.ar k.fl hw hs).mono fun _ _ h=>SE13o.of h)
 have HP:=Lh (fun A' c' W=>jpause_any l A' c' W hs)
 have HCA:=Lh (fun A' c' W (k:Js w p q r s a Y l A' c' W)=>aclone_any a Y W k.ar hw)
 obtain ⟨E,hE⟩:∃ E,E=stE13 a l t:=⟨_,rfl⟩
 obtain ⟨M,hM⟩:∃ M,M=stL13 a l t:=⟨_,rfl⟩
 obtain ⟨TA,hTA⟩:∃ x,x=stA13 a l t:=⟨_,rfl⟩
 have HR:=Lh (And.intro hE (And.intro hM hTA))
 rw [<-hE,<-hM,<-hTA]
 clear hp hq hr hss har hf hw hs hE hM hTA
 go_enter Tryz.func110,Tryz.ntmps110
 go_upto_region 1 with (fail)
 rw [<-HPP.out.2.2.2,<-HPP.out.2.2.1,<-HPP.out.2.1,<-HPP.out.1]
 generalize ((((w.alloc (.cells #[.slice Y.A a.sl.length Y.c,.slice Y.A2 a.st.length Y.c2,.int .i64 a.ow,.int .i64 a.cap,.slice Y.A3 a.dl.length Y.c3,.int .i64 a.dir.vn,.slice Y.D.A a.dir.l.length Y.D.c,.slice Y.D.A2 a.dir.F.length Y.D.c2,.int .i64 a.ep,.int .i64 a.ck,.int .i64 a.ni] 36)).alloc (.cells #[.slice A l.cs.length c,.int .i64 l.ph,.int .i64 l.hv,.int .i64 l.tr,.int .i64 l.wt] 45)).alloc (.cells #[.slice none 0 0,.slice none 0 0,.int .i64 0,.int .i64 0,.slice none 0 0,.int .i64 0,.slice none 0 0,.slice none 0 0,.int .i64 0,.int .i64 0,.int .i64 0] 36)).alloc (.cells #[.slice none 0 0,.int .i64 0,.int .i64 0,.int .i64 0,.int .i64 0] 45))=w1 at*
 obtain ⟨y0,y1,y2,y3,y4,y5,y6,y7,y8,y9,y10⟩:=H0.out.pb.k
 have yl:=H0.out.pb.lt
 obtain ⟨f0,f1,f2,f3,f4,f5,f6,f7,f8,f9,f10⟩:=H0.out.pb.free
 obtain ⟨l0,l1,l2,l3,l4⟩:=H0.out.qb.k
 have ll:=H0.out.qb.lt
 obtain ⟨e0,e1,e2,e3,e4⟩:=H0.out.qb.free
 obtain ⟨r0,r1,r2,r3,r4,r5,r6,r7,r8,r9,r10⟩:=H0.out.rb.k
 have rl:=H0.out.rb.lt
 obtain ⟨g0,g1,g2,g3,g4,g5,g6,g7,g8,g9,g10⟩:=H0.out.rb.free
 obtain ⟨s0,s1,s2,s3,s4⟩:=H0.out.sb.k
 have sl:=H0.out.sb.lt
 obtain ⟨h0,h1,h2,h3,h4⟩:=H0.out.sb.free
 have npr:¬p=r:=(by have:=H0.out.ne;omega)
 have nrp:¬r=p:=fun e=>npr e.symm
 have npq:¬p=q:=(by have:=H0.out.ne;omega)
 have nqp:¬q=p:=fun e=>npq e.symm
 have nps:¬p=s:=(by have:=H0.out.ne;omega)
 have nsp:¬s=p:=fun e=>nps e.symm
 have nqr:¬q=r:=(by have:=H0.out.ne;omega)
 have nrq:¬r=q:=fun e=>nqr e.symm
 have nqs:¬q=s:=(by have:=H0.out.ne;omega)
 have nsq:¬s=q:=fun e=>nqs e.symm
 have nrs:¬r=s:=(by have:=H0.out.ne;omega)
 have nsr:¬s=r:=fun e=>nrs e.symm
 go_wp2_with fail
 clear y0 y1 y2 y3 y4 y5 y6 y7 y8 y9 y10 yl f0 f1 f2 f3 f4 f5 f6 f7 f8 f9 f10 l0 l1 l2 l3 l4 ll e0 e1 e2 e3 e4 r0 r1 r2 r3 r4 r5 r6 r7 r8 r9 r10 rl g0 g1 g2 g3 g4 g5 g6 g7 g8 g9 g10 s0 s1 s2 s3 s4 sl h0 h1 h2 h3 h4 npr nrp npq nqp nps nsp nqr nrq nqs nsq nrs nsr
 refine (HCL.out _ H0.out).mono ?_
 rintro e w2 ⟨A2,c2,rfl,hn,hl,hb⟩
 have H1:=Lh (H0.out.below hb)
 have HN:=Lh (nw_low hn (show s+1<=_ from H0.out.sb.lt))
 have H2:=Lh (H1.out.setL HN.out hl)
 clear hn hl hb H0 HCL
 obtain ⟨y0,y1,y2,y3,y4,y5,y6,y7,y8,y9,y10⟩:=H1.out.pb.k
 have yl:=H1.out.pb.lt
 obtain ⟨f0,f1,f2,f3,f4,f5,f6,f7,f8,f9,f10⟩:=H1.out.pb.free
 obtain ⟨l0,l1,l2,l3,l4⟩:=H1.out.qb.k
 have ll:=H1.out.qb.lt
 obtain ⟨e0,e1,e2,e3,e4⟩:=H1.out.qb.free
 obtain ⟨r0,r1,r2,r3,r4,r5,r6,r7,r8,r9,r10⟩:=H1.out.rb.k
 have rl:=H1.out.rb.lt
 obtain ⟨g0,g1,g2,g3,g4,g5,g6,g7,g8,g9,g10⟩:=H1.out.rb.free
 obtain ⟨s0,s1,s2,s3,s4⟩:=H1.out.sb.k
 have sl:=H1.out.sb.lt
 obtain ⟨h0,h1,h2,h3,h4⟩:=H1.out.sb.free
 have npr:¬p=r:=(by have:=H1.out.ne;omega)
 have nrp:¬r=p:=fun e=>npr e.symm
 have npq:¬p=q:=(by have:=H1.out.ne;omega)
 have nqp:¬q=p:=fun e=>npq e.symm
 have nps:¬p=s:=(by have:=H1.out.ne;omega)
 have nsp:¬s=p:=fun e=>nps e.symm
 have nqr:¬q=r:=(by have:=H1.out.ne;omega)
 have nrq:¬r=q:=fun e=>nqr e.symm
 have nqs:¬q=s:=(by have:=H1.out.ne;omega)
 have nsq:¬s=q:=fun e=>nqs e.symm
 have nrs:¬r=s:=(by have:=H1.out.ne;omega)
 have nsr:¬s=r:=fun e=>nrs e.symm
 go_upto_region 2 with (fail)
 clear y0 y1 y2 y3 y4 y5 y6 y7 y8 y9 y10 yl f0 f1 f2 f3 f4 f5 f6 f7 f8 f9 f10 l0 l1 l2 l3 l4 ll e0 e1 e2 e3 e4 r0 r1 r2 r3 r4 r5 r6 r7 r8 r9 r10 rl g0 g1 g2 g3 g4 g5 g6 g7 g8 g9 g10 s0 s1 s2 s3 s4 sl h0 h1 h2 h3 h4 npr nrp npq nqp nps nsp nqr nrq nqs nsq nrs nsr H1
 generalize (w2.setCell ⟨q,0,none⟩ (.slice A2 l.cs.length c2))=w3 at*
 have HNE:=Lh (show w.heap.size<=r/\w.heap.size<=s/\r<s from by have:=H2.out.ne;omega)
 have HNN:=Lh (show w.heap.size<=s+1 from by have:=HNE.out;omega)
 by_cases h0:l.ph=0
 ·have hb0:(l.ph==0)=true:=by simp [h0]
  have HE:=Lh (show E=aqE a l t/\M=aqR a l t/\TA=tlA a (ctF l.cs l.hv) t from ⟨by rw [HR.out.1];exact if_pos h0,by rw [HR.out.2.1];exact if_pos h0,by rw [HR.out.2.2];exact if_pos h0⟩)
  rw [<-HE.out.1,<-HE.out.2.1,<-HE.out.2.2] at HA
  clear h0
  obtain ⟨y0,y1,y2,y3,y4,y5,y6,y7,y8,y9,y10⟩:=H2.out.pb.k
  have yl:=H2.out.pb.lt
  obtain ⟨f0,f1,f2,f3,f4,f5,f6,f7,f8,f9,f10⟩:=H2.out.pb.free
  obtain ⟨l0,l1,l2,l3,l4⟩:=H2.out.qb.k
  have ll:=H2.out.qb.lt
  obtain ⟨e0,e1,e2,e3,e4⟩:=H2.out.qb.free
  obtain ⟨r0,r1,r2,r3,r4,r5,r6,r7,r8,r9,r10⟩:=H2.out.rb.k
  have rl:=H2.out.rb.lt
  obtain ⟨g0,g1,g2,g3,g4,g5,g6,g7,g8,g9,g10⟩:=H2.out.rb.free
  obtain ⟨s0,s1,s2,s3,s4⟩:=H2.out.sb.k
  have sl:=H2.out.sb.lt
  obtain ⟨h0,h1,h2,h3,h4⟩:=H2.out.sb.free
  have npr:¬p=r:=(by have:=H2.out.ne;omega)
  have nrp:¬r=p:=fun e=>npr e.symm
  have npq:¬p=q:=(by have:=H2.out.ne;omega)
  have nqp:¬q=p:=fun e=>npq e.symm
  have nps:¬p=s:=(by have:=H2.out.ne;omega)
  have nsp:¬s=p:=fun e=>nps e.symm
  have nqr:¬q=r:=(by have:=H2.out.ne;omega)
  have nrq:¬r=q:=fun e=>nqr e.symm
  have nqs:¬q=s:=(by have:=H2.out.ne;omega)
  have nsq:¬s=q:=fun e=>nqs e.symm
  have nrs:¬r=s:=(by have:=H2.out.ne;omega)
  have nsr:¬s=r:=fun e=>nrs e.symm
  go_wp2_with fail
  clear y0 y1 y2 y3 y4 y5 y6 y7 y8 y9 y10 yl f0 f1 f2 f3 f4 f5 f6 f7 f8 f9 f10 l0 l1 l2 l3 l4 ll e0 e1 e2 e3 e4 r0 r1 r2 r3 r4 r5 r6 r7 r8 r9 r10 rl g0 g1 g2 g3 g4 g5 g6 g7 g8 g9 g10 s0 s1 s2 s3 s4 sl h0 h1 h2 h3 h4 npr nrp npq nqp nps nsp nqr nrq nqs nsq nrs nsr hb0
  refine (HA.out _ _ _ H2.out).mono ?_
  rintro e w4 ⟨Z,A3,c3,rfl,hzn,hna,hzr,hfl,hb⟩
  have HNA:=Lh (hna _ HN.out)
  have HZN:=Lh (And.intro (hzn.low (show s+1<=_ from H2.out.sb.lt)) (hzn.low H2.out.bel.size))
  have HQ:=Lh (H2.out.below hb)
  have HF:=Lh (se13_out (a:=TA) (l:=M) (x:=E) HNE.out.1 HNE.out.2.1 HQ.out.bel HZN.out.2 ⟨HZN.out.1.off (by have:=HNE.out;omega),HZN.out.1.off (Nat.lt_succ_self s)⟩ hzr (nw_low HNA.out HNN.out) hfl ⟨offb_nw HNA.out (by have:=HNE.out;omega),offb_nw HNA.out (Nat.lt_succ_self s)⟩)
  clear hzn hna hzr hfl hb HZN HNA H2
  obtain ⟨y0,y1,y2,y3,y4,y5,y6,y7,y8,y9,y10⟩:=HQ.out.pb.k
  have yl:=HQ.out.pb.lt
  obtain ⟨f0,f1,f2,f3,f4,f5,f6,f7,f8,f9,f10⟩:=HQ.out.pb.free
  obtain ⟨l0,l1,l2,l3,l4⟩:=HQ.out.qb.k
  have ll:=HQ.out.qb.lt
  obtain ⟨e0,e1,e2,e3,e4⟩:=HQ.out.qb.free
  obtain ⟨r0,r1,r2,r3,r4,r5,r6,r7,r8,r9,r10⟩:=HQ.out.rb.k
  have rl:=HQ.out.rb.lt
  obtain ⟨g0,g1,g2,g3,g4,g5,g6,g7,g8,g9,g10⟩:=HQ.out.rb.free
  obtain ⟨s0,s1,s2,s3,s4⟩:=HQ.out.sb.k
  have sl:=HQ.out.sb.lt
  obtain ⟨h0,h1,h2,h3,h4⟩:=HQ.out.sb.free
  have npr:¬p=r:=(by have:=HQ.out.ne;omega)
  have nrp:¬r=p:=fun e=>npr e.symm
  have npq:¬p=q:=(by have:=HQ.out.ne;omega)
  have nqp:¬q=p:=fun e=>npq e.symm
  have nps:¬p=s:=(by have:=HQ.out.ne;omega)
  have nsp:¬s=p:=fun e=>nps e.symm
  have nqr:¬q=r:=(by have:=HQ.out.ne;omega)
  have nrq:¬r=q:=fun e=>nqr e.symm
  have nqs:¬q=s:=(by have:=HQ.out.ne;omega)
  have nsq:¬s=q:=fun e=>nqs e.symm
  have nrs:¬r=s:=(by have:=HQ.out.ne;omega)
  have nsr:¬s=r:=fun e=>nrs e.symm
  clear HQ
  go_wp2
  exact bodyPost_ret (v:=.tuple #[av TA Z,lv M A3 c3,.int .i64 E]) (by simp only [results,Tryz.results110];go_simp <;> rfl) rfl HF.out
 ·have hb0:(l.ph==0)=false:=by simp [h0]
  by_cases h14:l.ph=1\/l.ph=4
  ·have HE:=Lh (show E=gbE a l t/\M=gbR a l t/\TA=ulA a (ctF l.cs (l.hv - 1)) t from ⟨by rw [HR.out.1];unfold stE13;rw [if_neg h0,if_pos h14],by rw [HR.out.2.1];unfold stL13;rw [if_neg h0,if_pos h14],by rw [HR.out.2.2];unfold stA13;rw [if_neg h0,if_pos h14]⟩)
   rw [<-HE.out.1,<-HE.out.2.1,<-HE.out.2.2] at HG
   clear h0
   rcases h14 with h1 | h4
   ·have hb1:(l.ph==1)=true:=by simp [h1]
    clear h1
    obtain ⟨y0,y1,y2,y3,y4,y5,y6,y7,y8,y9,y10⟩:=H2.out.pb.k
    have yl:=H2.out.pb.lt
    obtain ⟨f0,f1,f2,f3,f4,f5,f6,f7,f8,f9,f10⟩:=H2.out.pb.free
    obtain ⟨l0,l1,l2,l3,l4⟩:=H2.out.qb.k
    have ll:=H2.out.qb.lt
    obtain ⟨e0,e1,e2,e3,e4⟩:=H2.out.qb.free
    obtain ⟨r0,r1,r2,r3,r4,r5,r6,r7,r8,r9,r10⟩:=H2.out.rb.k
    have rl:=H2.out.rb.lt
    obtain ⟨g0,g1,g2,g3,g4,g5,g6,g7,g8,g9,g10⟩:=H2.out.rb.free
    obtain ⟨s0,s1,s2,s3,s4⟩:=H2.out.sb.k
    have sl:=H2.out.sb.lt
    obtain ⟨h0,h1,h2,h3,h4⟩:=H2.out.sb.free
    have npr:¬p=r:=(by have:=H2.out.ne;omega)
    have nrp:¬r=p:=fun e=>npr e.symm
    have npq:¬p=q:=(by have:=H2.out.ne;omega)
    have nqp:¬q=p:=fun e=>npq e.symm
    have nps:¬p=s:=(by have:=H2.out.ne;omega)
    have nsp:¬s=p:=fun e=>nps e.symm
    have nqr:¬q=r:=(by have:=H2.out.ne;omega)
    have nrq:¬r=q:=fun e=>nqr e.symm
    have nqs:¬q=s:=(by have:=H2.out.ne;omega)
    have nsq:¬s=q:=fun e=>nqs e.symm
    have nrs:¬r=s:=(by have:=H2.out.ne;omega)
    have nsr:¬s=r:=fun e=>nrs e.symm
    go_wp2_with fail
    clear y0 y1 y2 y3 y4 y5 y6 y7 y8 y9 y10 yl f0 f1 f2 f3 f4 f5 f6 f7 f8 f9 f10 l0 l1 l2 l3 l4 ll e0 e1 e2 e3 e4 r0 r1 r2 r3 r4 r5 r6 r7 r8 r9 r10 rl g0 g1 g2 g3 g4 g5 g6 g7 g8 g9 g10 s0 s1 s2 s3 s4 sl h0 h1 h2 h3 h4 npr nrp npq nqp nps nsp nqr nrq nqs nsq nrs nsr hb0 hb1
    refine (HG.out _ _ _ H2.out).mono ?_
    rintro e w4 ⟨Z,A3,c3,rfl,hzn,hna,hzr,hfl,hb⟩
    have HNA:=Lh (hna _ HN.out)
    have HZN:=Lh (And.intro (hzn.low (show s+1<=_ from H2.out.sb.lt)) (hzn.low H2.out.bel.size))
    have HQ:=Lh (H2.out.below hb)
    have HF:=Lh (se13_out (a:=TA) (l:=M) (x:=E) HNE.out.1 HNE.out.2.1 HQ.out.bel HZN.out.2 ⟨HZN.out.1.off (by have:=HNE.out;omega),HZN.out.1.off (Nat.lt_succ_self s)⟩ hzr (nw_low HNA.out HNN.out) hfl ⟨offb_nw HNA.out (by have:=HNE.out;omega),offb_nw HNA.out (Nat.lt_succ_self s)⟩)
    clear hzn hna hzr hfl hb HZN HNA H2
    obtain ⟨y0,y1,y2,y3,y4,y5,y6,y7,y8,y9,y10⟩:=HQ.out.pb.k
    have yl:=HQ.out.pb.lt
    obtain ⟨f0,f1,f2,f3,f4,f5,f6,f7,f8,f9,f10⟩:=HQ.out.pb.free
    obtain ⟨l0,l1,l2,l3,l4⟩:=HQ.out.qb.k
    have ll:=HQ.out.qb.lt
    obtain ⟨e0,e1,e2,e3,e4⟩:=HQ.out.qb.free
    obtain ⟨r0,r1,r2,r3,r4,r5,r6,r7,r8,r9,r10⟩:=HQ.out.rb.k
    have rl:=HQ.out.rb.lt
    obtain ⟨g0,g1,g2,g3,g4,g5,g6,g7,g8,g9,g10⟩:=HQ.out.rb.free
    obtain ⟨s0,s1,s2,s3,s4⟩:=HQ.out.sb.k
    have sl:=HQ.out.sb.lt
    obtain ⟨h0,h1,h2,h3,h4⟩:=HQ.out.sb.free
    have npr:¬p=r:=(by have:=HQ.out.ne;omega)
    have nrp:¬r=p:=fun e=>npr e.symm
    have npq:¬p=q:=(by have:=HQ.out.ne;omega)
    have nqp:¬q=p:=fun e=>npq e.symm
    have nps:¬p=s:=(by have:=HQ.out.ne;omega)
    have nsp:¬s=p:=fun e=>nps e.symm
    have nqr:¬q=r:=(by have:=HQ.out.ne;omega)
    have nrq:¬r=q:=fun e=>nqr e.symm
    have nqs:¬q=s:=(by have:=HQ.out.ne;omega)
    have nsq:¬s=q:=fun e=>nqs e.symm
    have nrs:¬r=s:=(by have:=HQ.out.ne;omega)
    have nsr:¬s=r:=fun e=>nrs e.symm
    clear HQ
    go_wp2
    exact bodyPost_ret (v:=.tuple #[av TA Z,lv M A3 c3,.int .i64 E]) (by simp only [results,Tryz.results110];go_simp <;> rfl) rfl HF.out
   ·have hb1:(l.ph==1)=false:=by simp [h4]
    have hb4:(l.ph==4)=true:=by simp [h4]
    clear h4
    obtain ⟨y0,y1,y2,y3,y4,y5,y6,y7,y8,y9,y10⟩:=H2.out.pb.k
    have yl:=H2.out.pb.lt
    obtain ⟨f0,f1,f2,f3,f4,f5,f6,f7,f8,f9,f10⟩:=H2.out.pb.free
    obtain ⟨l0,l1,l2,l3,l4⟩:=H2.out.qb.k
    have ll:=H2.out.qb.lt
    obtain ⟨e0,e1,e2,e3,e4⟩:=H2.out.qb.free
    obtain ⟨r0,r1,r2,r3,r4,r5,r6,r7,r8,r9,r10⟩:=H2.out.rb.k
    have rl:=H2.out.rb.lt
    obtain ⟨g0,g1,g2,g3,g4,g5,g6,g7,g8,g9,g10⟩:=H2.out.rb.free
    obtain ⟨s0,s1,s2,s3,s4⟩:=H2.out.sb.k
    have sl:=H2.out.sb.lt
    obtain ⟨h0,h1,h2,h3,h4⟩:=H2.out.sb.free
    have npr:¬p=r:=(by have:=H2.out.ne;omega)
    have nrp:¬r=p:=fun e=>npr e.symm
    have npq:¬p=q:=(by have:=H2.out.ne;omega)
    have nqp:¬q=p:=fun e=>npq e.symm
    have nps:¬p=s:=(by have:=H2.out.ne;omega)
    have nsp:¬s=p:=fun e=>nps e.symm
    have nqr:¬q=r:=(by have:=H2.out.ne;omega)
    have nrq:¬r=q:=fun e=>nqr e.symm
    have nqs:¬q=s:=(by have:=H2.out.ne;omega)
    have nsq:¬s=q:=fun e=>nqs e.symm
    have nrs:¬r=s:=(by have:=H2.out.ne;omega)
    have nsr:¬s=r:=fun e=>nrs e.symm
    go_wp2_with fail
    clear y0 y1 y2 y3 y4 y5 y6 y7 y8 y9 y10 yl f0 f1 f2 f3 f4 f5 f6 f7 f8 f9 f10 l0 l1 l2 l3 l4 ll e0 e1 e2 e3 e4 r0 r1 r2 r3 r4 r5 r6 r7 r8 r9 r10 rl g0 g1 g2 g3 g4 g5 g6 g7 g8 g9 g10 s0 s1 s2 s3 s4 sl h0 h1 h2 h3 h4 npr nrp npq nqp nps nsp nqr nrq nqs nsq nrs nsr hb0 hb1 hb4
    refine (HG.out _ _ _ H2.out).mono ?_
    rintro e w4 ⟨Z,A3,c3,rfl,hzn,hna,hzr,hfl,hb⟩
    have HNA:=Lh (hna _ HN.out)
    have HZN:=Lh (And.intro (hzn.low (show s+1<=_ from H2.out.sb.lt)) (hzn.low H2.out.bel.size))
    have HQ:=Lh (H2.out.below hb)
    have HF:=Lh (se13_out (a:=TA) (l:=M) (x:=E) HNE.out.1 HNE.out.2.1 HQ.out.bel HZN.out.2 ⟨HZN.out.1.off (by have:=HNE.out;omega),HZN.out.1.off (Nat.lt_succ_self s)⟩ hzr (nw_low HNA.out HNN.out) hfl ⟨offb_nw HNA.out (by have:=HNE.out;omega),offb_nw HNA.out (Nat.lt_succ_self s)⟩)
    clear hzn hna hzr hfl hb HZN HNA H2
    obtain ⟨y0,y1,y2,y3,y4,y5,y6,y7,y8,y9,y10⟩:=HQ.out.pb.k
    have yl:=HQ.out.pb.lt
    obtain ⟨f0,f1,f2,f3,f4,f5,f6,f7,f8,f9,f10⟩:=HQ.out.pb.free
    obtain ⟨l0,l1,l2,l3,l4⟩:=HQ.out.qb.k
    have ll:=HQ.out.qb.lt
    obtain ⟨e0,e1,e2,e3,e4⟩:=HQ.out.qb.free
    obtain ⟨r0,r1,r2,r3,r4,r5,r6,r7,r8,r9,r10⟩:=HQ.out.rb.k
    have rl:=HQ.out.rb.lt
    obtain ⟨g0,g1,g2,g3,g4,g5,g6,g7,g8,g9,g10⟩:=HQ.out.rb.free
    obtain ⟨s0,s1,s2,s3,s4⟩:=HQ.out.sb.k
    have sl:=HQ.out.sb.lt
    obtain ⟨h0,h1,h2,h3,h4⟩:=HQ.out.sb.free
    have npr:¬p=r:=(by have:=HQ.out.ne;omega)
    have nrp:¬r=p:=fun e=>npr e.symm
    have npq:¬p=q:=(by have:=HQ.out.ne;omega)
    have nqp:¬q=p:=fun e=>npq e.symm
    have nps:¬p=s:=(by have:=HQ.out.ne;omega)
    have nsp:¬s=p:=fun e=>nps e.symm
    have nqr:¬q=r:=(by have:=HQ.out.ne;omega)
    have nrq:¬r=q:=fun e=>nqr e.symm
    have nqs:¬q=s:=(by have:=HQ.out.ne;omega)
    have nsq:¬s=q:=fun e=>nqs e.symm
    have nrs:¬r=s:=(by have:=HQ.out.ne;omega)
    have nsr:¬s=r:=fun e=>nrs e.symm
    clear HQ
    go_wp2
    exact bodyPost_ret (v:=.tuple #[av TA Z,lv M A3 c3,.int .i64 E]) (by simp only [results,Tryz.results110];go_simp <;> rfl) rfl HF.out
  ·have hb1:(l.ph==1)=false:=by simp;exact fun h=>h14 (.inl h)
   have hb4:(l.ph==4)=false:=by simp;exact fun h=>h14 (.inr h)
   by_cases h2:l.ph=2
   ·have HE:=Lh (show E=0/\M=pzL l/\TA=a from ⟨by rw [HR.out.1];unfold stE13;rw [if_neg h0,if_neg h14,if_pos h2],by rw [HR.out.2.1];unfold stL13;rw [if_neg h0,if_neg h14,if_pos h2],by rw [HR.out.2.2];unfold stA13;rw [if_neg h0,if_neg h14,if_pos h2]⟩)
    rw [<-HE.out.2.1] at HP
    have HMC:=Lh (show M.cs=l.cs from by rw [HE.out.2.1];rfl)
    have hb2:(l.ph==2)=true:=by simp [h2]
    have HJ:=Lh H2.out.drew
    clear h0 h14 h2
    obtain ⟨y0,y1,y2,y3,y4,y5,y6,y7,y8,y9,y10⟩:=H2.out.pb.k
    have yl:=H2.out.pb.lt
    obtain ⟨f0,f1,f2,f3,f4,f5,f6,f7,f8,f9,f10⟩:=H2.out.pb.free
    obtain ⟨l0,l1,l2,l3,l4⟩:=H2.out.qb.k
    have ll:=H2.out.qb.lt
    obtain ⟨e0,e1,e2,e3,e4⟩:=H2.out.qb.free
    obtain ⟨r0,r1,r2,r3,r4,r5,r6,r7,r8,r9,r10⟩:=H2.out.rb.k
    have rl:=H2.out.rb.lt
    obtain ⟨g0,g1,g2,g3,g4,g5,g6,g7,g8,g9,g10⟩:=H2.out.rb.free
    obtain ⟨s0,s1,s2,s3,s4⟩:=H2.out.sb.k
    have sl:=H2.out.sb.lt
    obtain ⟨h0,h1,h2,h3,h4⟩:=H2.out.sb.free
    have npr:¬p=r:=(by have:=H2.out.ne;omega)
    have nrp:¬r=p:=fun e=>npr e.symm
    have npq:¬p=q:=(by have:=H2.out.ne;omega)
    have nqp:¬q=p:=fun e=>npq e.symm
    have nps:¬p=s:=(by have:=H2.out.ne;omega)
    have nsp:¬s=p:=fun e=>nps e.symm
    have nqr:¬q=r:=(by have:=H2.out.ne;omega)
    have nrq:¬r=q:=fun e=>nqr e.symm
    have nqs:¬q=s:=(by have:=H2.out.ne;omega)
    have nsq:¬s=q:=fun e=>nqs e.symm
    have nrs:¬r=s:=(by have:=H2.out.ne;omega)
    have nsr:¬s=r:=fun e=>nrs e.symm
    go_wp2
    go_region_law (first
     | (go_simp;go_at_call 32;(with_reducible refine (HCA.out _ _ _ HJ.out).mono ?_);rintro e w5 ⟨Z,b,rfl,hn,hr,hb,-⟩;have HZN:=Lh (And.intro (hn.low (show s+1<=_ from HJ.out.sb.lt)) (hn.low HJ.out.bel.size));have HZR:=Lh hr;have HBZ:=Lh (Below.refl w5.heap.size w5);have HJ:=Lh (HJ.out.below hb);clear hn hr hb;obtain ⟨y0,y1,y2,y3,y4,y5,y6,y7,y8,y9,y10⟩:=HJ.out.pb.k;have yl:=HJ.out.pb.lt;obtain ⟨f0,f1,f2,f3,f4,f5,f6,f7,f8,f9,f10⟩:=HJ.out.pb.free;obtain ⟨l0,l1,l2,l3,l4⟩:=HJ.out.qb.k;have ll:=HJ.out.qb.lt;obtain ⟨e0,e1,e2,e3,e4⟩:=HJ.out.qb.free;obtain ⟨r0,r1,r2,r3,r4,r5,r6,r7,r8,r9,r10⟩:=HJ.out.rb.k;have rl:=HJ.out.rb.lt;obtain ⟨g0,g1,g2,g3,g4,g5,g6,g7,g8,g9,g10⟩:=HJ.out.rb.free;obtain ⟨s0,s1,s2,s3,s4⟩:=HJ.out.sb.k;have sl:=HJ.out.sb.lt;obtain ⟨h0,h1,h2,h3,h4⟩:=HJ.out.sb.free;have npr:¬p=r:=(by have:=HJ.out.ne;omega);have nrp:¬r=p:=fun e=>npr e.symm;have npq:¬p=q:=(by have:=HJ.out.ne;omega);have nqp:¬q=p:=fun e=>npq e.symm;have nps:¬p=s:=(by have:=HJ.out.ne;omega);have nsp:¬s=p:=fun e=>nps e.symm;have nqr:¬q=r:=(by have:=HJ.out.ne;omega);have nrq:¬r=q:=fun e=>nqr e.symm;have nqs:¬q=s:=(by have:=HJ.out.ne;omega);have nsq:¬s=q:=fun e=>nqs e.symm;have nrs:¬r=s:=(by have:=HJ.out.ne;omega);have nsr:¬s=r:=fun e=>nrs e.symm)
     | (go_simp;go_at_call 131;(with_reducible refine (HP.out _ _ _).mono ?_);rintro e w6 ⟨rfl,hb⟩;(try (have HBZ:=Lh (HBZ.out.trans (hb.mono HBZ.out.size))));have HJ:=Lh (HJ.out.below hb);clear hb;obtain ⟨y0,y1,y2,y3,y4,y5,y6,y7,y8,y9,y10⟩:=HJ.out.pb.k;have yl:=HJ.out.pb.lt;obtain ⟨f0,f1,f2,f3,f4,f5,f6,f7,f8,f9,f10⟩:=HJ.out.pb.free;obtain ⟨l0,l1,l2,l3,l4⟩:=HJ.out.qb.k;have ll:=HJ.out.qb.lt;obtain ⟨e0,e1,e2,e3,e4⟩:=HJ.out.qb.free;obtain ⟨r0,r1,r2,r3,r4,r5,r6,r7,r8,r9,r10⟩:=HJ.out.rb.k;have rl:=HJ.out.rb.lt;obtain ⟨g0,g1,g2,g3,g4,g5,g6,g7,g8,g9,g10⟩:=HJ.out.rb.free;obtain ⟨s0,s1,s2,s3,s4⟩:=HJ.out.sb.k;have sl:=HJ.out.sb.lt;obtain ⟨h0,h1,h2,h3,h4⟩:=HJ.out.sb.free;have npr:¬p=r:=(by have:=HJ.out.ne;omega);have nrp:¬r=p:=fun e=>npr e.symm;have npq:¬p=q:=(by have:=HJ.out.ne;omega);have nqp:¬q=p:=fun e=>npq e.symm;have nps:¬p=s:=(by have:=HJ.out.ne;omega);have nsp:¬s=p:=fun e=>nps e.symm;have nqr:¬q=r:=(by have:=HJ.out.ne;omega);have nrq:¬r=q:=fun e=>nqr e.symm;have nqs:¬q=s:=(by have:=HJ.out.ne;omega);have nsq:¬s=q:=fun e=>nqs e.symm;have nrs:¬r=s:=(by have:=HJ.out.ne;omega);have nsr:¬s=r:=fun e=>nrs e.symm))
    all_goals
     have HF:=Lh (show SE13 w TA M E (.returned (.tuple #[av a Z,lv M A2 c2,.int .i64 0])) (set5 (set11 _ r a Z) s M A2 c2) from by rw [HE.out.1,HE.out.2.2];exact se13_out (a:=a) (l:=M) (A:=A2) (c:=c2) (x:=0) HNE.out.1 HNE.out.2.1 HJ.out.bel HZN.out.2 ⟨HZN.out.1.off (by have:=HNE.out;omega),HZN.out.1.off (Nat.lt_succ_self s)⟩ (HZR.out.up HBZ.out) (nw_low HN.out HNN.out) (by rw [HMC.out];exact HJ.out.fl) ⟨offb_nw HN.out (by have:=HNE.out;omega),offb_nw HN.out (Nat.lt_succ_self s)⟩)
     clear HJ HZN HZR HBZ H2
     go_wp2
     exact bodyPost_ret (v:=.tuple #[av a Z,lv M A2 c2,.int .i64 0]) (by simp only [results,Tryz.results110];go_simp <;> rfl) rfl HF.out
   ·have HE:=Lh (show E=7/\M=zK/\TA=zA from ⟨by rw [HR.out.1];unfold stE13;rw [if_neg h0,if_neg h14,if_neg h2],by rw [HR.out.2.1];unfold stL13;rw [if_neg h0,if_neg h14,if_neg h2],by rw [HR.out.2.2];unfold stA13;rw [if_neg h0,if_neg h14,if_neg h2]⟩)
    have hb2:(l.ph==2)=false:=by simp [h2]
    clear h0 h14 h2
    have HF:=Lh (show SE13 w TA M E (.returned (.tuple #[av zA zAx,lv zK none 0,.int .i64 7])) (set5 (set11 w3 r zA zAx) s zK none 0) from by rw [HE.out.1,HE.out.2.1,HE.out.2.2];exact se13_out (a:=zA) (Y:=zAx) (l:=zK) (A:=none) (c:=0) (x:=7) HNE.out.1 HNE.out.2.1 H2.out.bel (zAx_nw _) ⟨aoff_z _,aoff_z _⟩ AR.zero nw_none Fl.nil ⟨offb_0 _ _,offb_0 _ _⟩)
    obtain ⟨y0,y1,y2,y3,y4,y5,y6,y7,y8,y9,y10⟩:=H2.out.pb.k
    have yl:=H2.out.pb.lt
    obtain ⟨f0,f1,f2,f3,f4,f5,f6,f7,f8,f9,f10⟩:=H2.out.pb.free
    obtain ⟨l0,l1,l2,l3,l4⟩:=H2.out.qb.k
    have ll:=H2.out.qb.lt
    obtain ⟨e0,e1,e2,e3,e4⟩:=H2.out.qb.free
    obtain ⟨r0,r1,r2,r3,r4,r5,r6,r7,r8,r9,r10⟩:=H2.out.rb.k
    have rl:=H2.out.rb.lt
    obtain ⟨g0,g1,g2,g3,g4,g5,g6,g7,g8,g9,g10⟩:=H2.out.rb.free
    obtain ⟨s0,s1,s2,s3,s4⟩:=H2.out.sb.k
    have sl:=H2.out.sb.lt
    obtain ⟨h0,h1,h2,h3,h4⟩:=H2.out.sb.free
    have npr:¬p=r:=(by have:=H2.out.ne;omega)
    have nrp:¬r=p:=fun e=>npr e.symm
    have npq:¬p=q:=(by have:=H2.out.ne;omega)
    have nqp:¬q=p:=fun e=>npq e.symm
    have nps:¬p=s:=(by have:=H2.out.ne;omega)
    have nsp:¬s=p:=fun e=>nps e.symm
    have nqr:¬q=r:=(by have:=H2.out.ne;omega)
    have nrq:¬r=q:=fun e=>nqr e.symm
    have nqs:¬q=s:=(by have:=H2.out.ne;omega)
    have nsq:¬s=q:=fun e=>nqs e.symm
    have nrs:¬r=s:=(by have:=H2.out.ne;omega)
    have nsr:¬s=r:=fun e=>nrs e.symm
    clear H2
    go_wp2
    exact bodyPost_ret (v:=.tuple #[.agg #[.slice none 0 0,.slice none 0 0,.int .i64 0,.int .i64 0,.slice none 0 0,.int .i64 0,.slice none 0 0,.slice none 0 0,.int .i64 0,.int .i64 0,.int .i64 0],.agg #[.slice none 0 0,.int .i64 0,.int .i64 0,.int .i64 0,.int .i64 0],.int .i64 7]) (by simp only [results,Tryz.results110];go_simp <;> rfl) rfl HF.out
structure YW (w:World) (B g:Nat) (A:Option Addr) (c:Nat) (l:List St) (W:World):Prop where
 src:SrcAt W B g
 own:W.ownsRow w.heap.size 63 4 (.slice A l.length c) l.length (tcs l)
 grow:w.grownBy W (some g)
 gl:g<w.heap.size
section
variable {w W W' : World} {B g c:Nat} {A:Option Addr} {l:List St}
end
structure JW (w:World) (B g:Nat) (A:Option Addr) (c:Nat) (l:List Int) (W:World):Prop where
 src:SrcAt W B g
 own:W.ownsRow w.heap.size 3 1 (.slice A l.length c) l.length (ics l)
 grow:w.grownBy W (some g)
 gl:g<w.heap.size
section
variable {w W W' : World} {B g c:Nat} {A:Option Addr} {l:List Int}
end
structure OkC (N:Nat) (cs:List Int):Prop where
 l3:cs.length<=3
 asc:∀ i j,i<j->j<cs.length->ig cs i<ig cs j
 rng:∀ i,i<cs.length->0<=ig cs i/\ig cs i<=N
end Go.Proofs.YtkecnihgjepfeaaGreat
/- Plain: a row of lockers beside an arena's box and a source. -/
namespace Go.Proofs.YtkecnihgjepfeaaGreat
open Go.RowKit
set_option linter.unusedVariables false
set_option linter.unusedSimpArgs false
set_option maxHeartbeats 8000000
set_option maxRecDepth 20000
structure Lc where
 l:Lk
 A:Option Addr
 c:Nat
def Lc.v (t:Lc):List Value:=[.slice t.A t.l.cs.length t.c,.int .i64 t.l.ph,.int .i64 t.l.hv,.int .i64 t.l.tr,.int .i64 t.l.wt]
def kcs (l:List Lc):List Value:=l.flatMap Lc.v
abbrev sets5 (W:World) (b o:Nat) (t:Lc):World:=((((W.setCell ⟨b,o,none⟩ (.slice t.A t.l.cs.length t.c)).setCell ⟨b,o+1,none⟩ (.int .i64 t.l.ph)).setCell ⟨b,o+2,none⟩ (.int .i64 t.l.hv)).setCell ⟨b,o+3,none⟩ (.int .i64 t.l.tr)).setCell ⟨b,o+4,none⟩ (.int .i64 t.l.wt)
section
variable {W W' : World} {b o p B:Nat} {t:Lc} {a:Ar} {Y:Ax} {l:Lk} {A:Option Addr} {c n:Nat} {x:List Int}
theorem Rd.grown13 {size g:Nat} {xs:List Value} (h:Rd W B size A n xs) (hB:B<=W.heap.size) (hg:W.grownBy W' (some g)) (ho:OffB g n A):Rd W' B size A n xs:=
 ⟨h.1,fun h0=>by
  obtain ⟨b,o,e,hb,hc⟩:=h.2 h0
  have hne:b≠g:=ho h0 _ e
  exact ⟨b,o,e,hb,fun j u hu=>(hg.cell_far ⟨b,o+j,none⟩ (Nat.lt_of_lt_of_le hb hB) (fun e=>by injection e with e;exact hne e)).trans (hc j u hu)⟩⟩
theorem AR.grown13 {g:Nat} (h:AR W W.heap.size a Y) (hg:W.grownBy W' (some g)) (ho:AOff a Y g):AR W' W'.heap.size a Y:=by
 refine AR.more (B:=W.heap.size) ⟨?_,h.so,fun s hs=>?_,?_,?_,⟨?_,?_⟩⟩ hg.size
 ·obtain ⟨A,c,e,h1,h2,h3⟩:=h.ql
  have e':=e
  injection e' with e1 e2 e3
  exact ⟨A,c,e,h1,h2,h3.grown13 (nLR _) hg (by rw [<-e1,<-e2];exact ho.o1)⟩
 ·have k:=h.sr s hs
  have o:=ho.os s hs
  exact ⟨k.ls.grownR (nLR _) hg (fun q e=>by injection e with e;subst e;exact o.o1),k.el.grownR (nLR _) hg (fun q e=>by injection e with e;subst e;exact o.o2),k.dl.grownR (nLR _) hg (fun q e=>by injection e with e;subst e;exact o.o3)⟩
 ·obtain ⟨A,c,e,h1,h2,h3⟩:=h.tl
  have e':=e
  injection e' with e1 e2 e3
  exact ⟨A,c,e,h1,h2,h3.grown13 (nLR _) hg (by rw [<-e1];exact ho.o2)⟩
 ·exact h.ls.grownR (nLR _) hg (fun q e=>by injection e with e;subst e;exact ho.o3)
 ·obtain ⟨A,c,e,h1,h2,h3⟩:=h.dr.pl
  have e':=e
  injection e' with e1 e2 e3
  exact ⟨A,c,e,h1,h2,h3.grown13 (nLR _) hg (fun h0 a ea=>ho.o4.o1 a (e1.trans ea) h0)⟩
 ·obtain ⟨A,c,e,h1,h2,h3⟩:=h.dr.fl
  have e':=e
  injection e' with e1 e2 e3
  exact ⟨A,c,e,h1,h2,h3.grown13 (nLR _) hg (fun h0 a ea=>ho.o4.o2 a (e1.trans ea) h0)⟩
end
structure Lx (W:World) (pa b g:Nat) (t:Lc):Prop where
 fl:Fl W W.heap.size (.slice t.A t.l.cs.length t.c) t.l.cs
 oa:OffB pa t.l.cs.length t.A
 ob:OffB b t.l.cs.length t.A
 og:OffB g t.l.cs.length t.A
structure Jt2 (w:World) (g pa b:Nat) (a:Ar) (Y:Ax) (Q:List Lc) (W:World):Prop where
 src:SrcAt W w.heap.size g
 qb:QB W pa a Y
 ar:AR W W.heap.size a Y
 ao:AOff a Y pa/\AOff a Y b/\AOff a Y g
 rb:Rb W b (kcs Q)
 lx:∀ t∈Q,Lx W pa b g t
 ne:w.heap.size<=g/\g<pa/\pa<b
 bel:Below w.heap.size w W
section
variable {w W W' : World} {g pa b lo:Nat} {a a' : Ar} {Y Z:Ax} {Q:List Lc} {t:Lc} {k:Nat}
end
end Go.Proofs.YtkecnihgjepfeaaGreat
