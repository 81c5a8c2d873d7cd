/- What is proved here: ref07.Nack by a contract; ref07.Counts by a contract; shard.Counts by a contract; shardqueuelaw07.tells says yes of any shard. -/
import Derived.Test.YtdobenkkkkaipaaGreatJ47
import Derived.Test.YtdobenkkkkaipaaGreatJ40
namespace Go.Proofs.YtdobenkkkkaipaaGreat
open Go.RowKit
set_option linter.unusedVariables false
set_option maxHeartbeats 8000000 in
set_option maxRecDepth 20000 in
theorem rnack7_any (S:Sh) (D:Sx) (H:Hn) (now ep lim:Int) (w:World) (hs:SR w w.heap.size S D) :
  Calls Tryz.prog 37 #[sv S D,H.v,.int .i64 now,.int .i64 ep,.int .i64 lim] w (SE8 w S D (if heS S H now ep (wi lim 1 8)=0 then gbN S H.id lim else zS) (heS S H now ep (wi lim 1 8))):=by
 have e1:(w.alloc (.cells #[.bool S.lv,.int .i64 S.lo,.int .i64 S.hi,.slice D.A S.cs.length D.c,.int .i64 S.hd,.int .i64 S.sz,.slice D.A2 S.l.length D.c2,.slice D.A3 S.h.length D.c3] 33)).heap.size=w.heap.size+1:=by simp
 have e2:((w.alloc (.cells #[.bool S.lv,.int .i64 S.lo,.int .i64 S.hi,.slice D.A S.cs.length D.c,.int .i64 S.hd,.int .i64 S.sz,.slice D.A2 S.l.length D.c2,.slice D.A3 S.h.length D.c3] 33)).alloc (.cells #[.int .i64 H.id,.int .i64 H.gn,.int .i64 H.rt,.int .i64 H.ht] 36)).heap.size=w.heap.size+1+1:=by simp
 have H0:=Lh (((SAt.start 33 hs).alloc (.cells #[.int .i64 H.id,.int .i64 H.gn,.int .i64 H.rt,.int .i64 H.ht] 36)).alloc (.cells #[.bool false,.int .i64 0,.int .i64 0,.slice none 0 0,.int .i64 0,.int .i64 0,.slice none 0 0,.slice none 0 0] 33))
 have Q0:=Lh ((H4.start (w.alloc (.cells #[.bool S.lv,.int .i64 S.lo,.int .i64 S.hi,.slice D.A S.cs.length D.c,.int .i64 S.hd,.int .i64 S.sz,.slice D.A2 S.l.length D.c2,.slice D.A3 S.h.length D.c3] 33)) H 36).up ((Below.refl _ _).alloc (Nat.le_refl _) (.cells #[.bool false,.int .i64 0,.int .i64 0,.slice none 0 0,.int .i64 0,.int .i64 0,.slice none 0 0,.slice none 0 0] 33)))
 have R0:=Lh (SB8.zero ((w.alloc (.cells #[.bool S.lv,.int .i64 S.lo,.int .i64 S.hi,.slice D.A S.cs.length D.c,.int .i64 S.hd,.int .i64 S.sz,.slice D.A2 S.l.length D.c2,.slice D.A3 S.h.length D.c3] 33)).alloc (.cells #[.int .i64 H.id,.int .i64 H.gn,.int .i64 H.rt,.int .i64 H.ht] 36)) 33)
 rw [e1] at Q0
 rw [e2] at R0
 have HHE:=Lh (fun p W (k:SAt w p S D W)=>rheld7_any S D H now ep (wi lim 1 8) W k.sr)
 have HL:=Lh (fun W=>rlimits_any lim W)
 obtain ⟨x,hx⟩:∃ x,x=heS S H now ep (wi lim 1 8):=⟨_,rfl⟩
 rw [←hx] at HHE
 rw [←hx]
 have HO:=Lh (fun r (h:w.heap.size≤r)=>hs.offs h)
 have HRL:=Lh (fun p D W (q:SAt w p S D W)=>rtrelease_any D.A2 S.l.length D.c2 S.l D.A3 S.h.length D.c3 S.h H.id W q.sr.el q.sr.dl)
 obtain ⟨T,hT⟩:∃ T,T=gbN S H.id lim:=⟨_,rfl⟩
 obtain ⟨U,hU⟩:∃ U,U=if x=0 then gbN S H.id lim else zS:=⟨_,rfl⟩
 have HUU:=Lh (show U=if x=0 then T else zS from by rw [hU,hT])
 have HTT:=Lh (show T=⟨S.lv,S.lo,S.hi,nkC S.cs S.hd S.sz (rlM S.l S.h H.id) lim,nkH S.cs S.hd S.sz (rlM S.l S.h H.id) lim,ifE (puE S.cs S.hd S.sz (rlM S.l S.h H.id)) (S.sz+1),rlL S.l S.h H.id,rlH S.l S.h H.id⟩ from hT)
 rw [←hU]
 clear hU hT hs hx
 generalize rlL S.l S.h H.id=gl at*
 generalize rlH S.l S.h H.id=gh at*
 generalize rlE S.l S.h H.id=rE at*
 generalize rlM S.l S.h H.id=M at*
 have HSP:=Lh (fun W=>rspent_any M lim W)
 have HPB:=Lh (fun A3 c3 A4 c4 p W (q:SAt w p ⟨S.lv,S.lo,S.hi,S.cs,S.hd,S.sz,gl,gh⟩ ⟨D.A,D.c,A3,c3,A4,c4⟩ W)=>rpback_any D.A S.cs.length D.c S.cs S.hd S.sz M W q.sr.ls)
 have HPF:=Lh (fun A3 c3 A4 c4 p W (q:SAt w p ⟨S.lv,S.lo,S.hi,S.cs,S.hd,S.sz,gl,gh⟩ ⟨D.A,D.c,A3,c3,A4,c4⟩ W)=>rpfront_any D.A S.cs.length D.c S.cs S.hd S.sz M W q.sr.ls)
 go_enter Tryz.func37,Tryz.ntmps37
 obtain ⟨p,hp⟩:∃ p,p=w.heap.size:=⟨_,rfl⟩
 obtain ⟨q,hq⟩:∃ q,q=w.heap.size+1:=⟨_,rfl⟩
 obtain ⟨r,hr⟩:∃ r,r=w.heap.size+1+1:=⟨_,rfl⟩
 have HPR:=Lh (show (¬p=r∧¬r=p∧¬p=q∧¬q=p)∧w.heap.size≤p∧p<q∧q<r by omega)
 go_upto_region 1 with (fail)
 rw [←hr,←hq,←hp]
 rw [←hr] at R0
 rw [←hq] at Q0
 rw [←hp] at H0
 clear e1 e2 hp hq hr
 generalize (((w.alloc (.cells #[.bool S.lv,.int .i64 S.lo,.int .i64 S.hi,.slice D.A S.cs.length D.c,.int .i64 S.hd,.int .i64 S.sz,.slice D.A2 S.l.length D.c2,.slice D.A3 S.h.length D.c3] 33)).alloc (.cells #[.int .i64 H.id,.int .i64 H.gn,.int .i64 H.rt,.int .i64 H.ht] 36)).alloc (.cells #[.bool false,.int .i64 0,.int .i64 0,.slice none 0 0,.int .i64 0,.int .i64 0,.slice none 0 0,.slice none 0 0] 33))=w1 at*
 have HD:=Lh H0.out.drew
 have QD:=Lh (Q0.out.up ((Below.refl _ _).drew))
 have RD:=Lh (R0.out.up ((Below.refl _ _).drew))
 have HT0:=Lh (show ChK p q S D H w1.drew from ChK.mk HD.out.k8 QD.out)
 generalize wi lim 1 8=vb at*
 go_region_held3 (fun W=>ChK p q S D H W)
  (first | with_reducible exact HT0.out | with_reducible exact HT3.out)
  (first
  | (go_at_call 55;(with_reducible refine (HL.out _).mono ?_);rintro e w3 ⟨rfl,rfl⟩)
  | (go_at_call 93;(with_reducible refine (HHE.out _ _ HD.out).mono ?_);rintro e w2 ⟨rfl,hb⟩;have H1:=Lh (HD.out.below hb);have Q1:=Lh (QD.out.up hb);have R1:=Lh (RD.out.up hb);have HT3:=Lh (show ChK p q S D H w2 from ChK.mk H1.out.k8 Q1.out);clear hb))
 clear HD QD RD HT0 HT3 HL HHE H0 R0 Q0
 by_cases hx:x=0
 ·have HX:=Lh hx
  subst hx
  obtain ⟨t0,t1,t2,t3,t4,t5,t6,t7,tl⟩:=H1.out.s8.facts
  obtain ⟨q0,q1,q2,q3,ql⟩:=Q1.out
  go_wp2_with fail
  clear t0 t1 t2 t3 t4 t5 t6 t7 tl q0 q1 q2 q3 ql Q1
  refine (HRL.out _ _ _ H1.out).mono ?_
  rintro e w4 ⟨A3,c3,A4,c4,rfl,n3,n4,h3,h4,hb⟩
  have H4:=Lh (H1.out.below hb)
  have R4:=Lh (R1.out.up hb)
  have H5:=Lh (show SAt w p ⟨S.lv,S.lo,S.hi,S.cs,S.hd,S.sz,gl,gh⟩ ⟨D.A,D.c,A3,c3,A4,c4⟩ ((w4.setCell ⟨p,6,none⟩ (.slice A3 gl.length c3)).setCell ⟨p,7,none⟩ (.slice A4 gh.length c4)) from H4.out.setTab h3 h4 (offb_nw n3 H1.out.lt) (offb_nw n4 H1.out.lt))
  have R5:=Lh ((R4.out.other (q:=⟨p,6,none⟩) HPR.out.1.1 (.slice A3 gl.length c3)).other (q:=⟨p,7,none⟩) HPR.out.1.1 (.slice A4 gh.length c4))
  have N5:=Lh (show Nw (r+1) A3∧Nw (r+1) A4 from ⟨nw_low n3 R1.out.lt,nw_low n4 R1.out.lt⟩)
  have H6:=Lh ((H5.out.alloc (.cells #[.slice A3 gl.length c3,.slice A4 gh.length c4] 31)).alloc (.cells #[.int .i64 M.id,.int .i64 M.rt,.int .i64 M.ep,.int .i64 M.ct,.int .i64 M.gn,.int .i64 M.st,.string M.bd] 44))
  have R6:=Lh ((R5.out.up ((Below.refl _ _).alloc (Nat.le_refl _) (.cells #[.slice A3 gl.length c3,.slice A4 gh.length c4] 31))).up ((Below.refl _ _).alloc (Nat.le_refl _) (.cells #[.int .i64 M.id,.int .i64 M.rt,.int .i64 M.ep,.int .i64 M.ct,.int .i64 M.gn,.int .i64 M.st,.string M.bd] 44)))
  have HM6:=Lh (MBx.start (((w4.setCell ⟨p,6,none⟩ (.slice A3 gl.length c3)).setCell ⟨p,7,none⟩ (.slice A4 gh.length c4)).alloc (.cells #[.slice A3 gl.length c3,.slice A4 gh.length c4] 31)) M 44)
  rw [show (((w4.setCell ⟨p,6,none⟩ (.slice A3 gl.length c3)).setCell ⟨p,7,none⟩ (.slice A4 gh.length c4)).alloc (.cells #[.slice A3 gl.length c3,.slice A4 gh.length c4] 31)).heap.size=w4.heap.size+1 by simp] at HM6
  clear n3 n4 h3 h4 hb
  obtain ⟨⟨t0,t1,t2,t3,t4,t5,t6,t7,tl⟩,⟨f0,f1,f2,f3,f4,f5,f6,f7⟩⟩:=H4.out.s8.all
  obtain ⟨⟨hpr,hrp,hpq,hqp⟩,-,-,-⟩:=HPR.out
  go_wp2_with fail
  clear t0 t1 t2 t3 t4 t5 t6 t7 tl f0 f1 f2 f3 f4 f5 f6 f7 hpr hrp hpq hqp H4 R4 H5 R5 H1 R1
  generalize ((((w4.setCell ⟨p,6,none⟩ (.slice A3 gl.length c3)).setCell ⟨p,7,none⟩ (.slice A4 gh.length c4)).alloc (.cells #[.slice A3 gl.length c3,.slice A4 gh.length c4] 31)).alloc (.cells #[.int .i64 M.id,.int .i64 M.rt,.int .i64 M.ep,.int .i64 M.ct,.int .i64 M.gn,.int .i64 M.st,.string M.bd] 44))=w6 at*
  generalize w4.heap.size+1=mb at*
  generalize w4.heap.size=tb at*
  cases hsp:spF M lim with
  | true=>
   have HC:=Lh (show nkC S.cs S.hd S.sz M lim=pbC S.cs S.hd S.sz M∧nkH S.cs S.hd S.sz M lim=ifE (puE S.cs S.hd S.sz M) S.hd by unfold nkC nkH;rw [hsp];exact ⟨rfl,rfl⟩)
   rw [hsp] at HSP
   rw [HC.out.1,HC.out.2] at HTT
   generalize pbC S.cs S.hd S.sz M=cs at*
   generalize ifE (puE S.cs S.hd S.sz M) S.hd=hd at*
   generalize ifE (puE S.cs S.hd S.sz M) (S.sz+1)=sz at*
   generalize puE S.cs S.hd S.sz M=pE at*
   clear hsp HC
   refine (HSP.out _).mono ?_
   rintro e w7 ⟨rfl,hb⟩
   have H7:=Lh (H6.out.below hb)
   have R7:=Lh (R6.out.up hb)
   have M7:=Lh (HM6.out.up hb)
   clear hb H6 R6 HM6
   obtain ⟨t0,t1,t2,t3,t4,t5,t6,t7,tl⟩:=H7.out.s8.facts
   obtain ⟨⟨x0,x1,x2,x3,x4,x5,x6⟩,-,hbl⟩:=M7.out
   go_wp2_with fail
   clear t0 t1 t2 t3 t4 t5 t6 t7 tl x0 x1 x2 x3 x4 x5 x6 hbl M7
   refine (HPB.out _ _ _ _ _ _ H7.out).mono ?_
   rintro e w8 ⟨A5,c5,rfl,n5,h5,hb⟩
   have H8:=Lh (H7.out.below hb)
   have R8:=Lh (R7.out.up hb)
   have H9:=Lh (show SAt w p ⟨S.lv,S.lo,S.hi,cs,hd,sz,gl,gh⟩ ⟨A5,c5,A3,c3,A4,c4⟩ (((w8.setCell ⟨p,3,none⟩ (.slice A5 cs.length c5)).setCell ⟨p,4,none⟩ (.int .i64 hd)).setCell ⟨p,5,none⟩ (.int .i64 sz)) from H8.out.setRing hd sz h5 (offb_nw n5 H7.out.lt))
   have N9:=Lh (show Nw (r+1) A5 from nw_low n5 R7.out.lt)
   clear n5 h5 hb
   have HF:=Lh (show SE8 w S D U 0 (.returned (.tuple #[.agg #[.bool S.lv,.int .i64 S.lo,.int .i64 S.hi,.slice A5 cs.length c5,.int .i64 hd,.int .i64 sz,.slice A3 gl.length c3,.slice A4 gh.length c4],.int .i64 0])) (((((((((((w8.setCell ⟨p,3,none⟩ (.slice A5 cs.length c5)).setCell ⟨p,4,none⟩ (.int .i64 hd)).setCell ⟨p,5,none⟩ (.int .i64 sz)).setCell ⟨r,0,none⟩ (.bool S.lv)).setCell ⟨r,1,none⟩ (.int .i64 S.lo)).setCell ⟨r,2,none⟩ (.int .i64 S.hi)).setCell ⟨r,3,none⟩ (.slice A5 cs.length c5)).setCell ⟨r,4,none⟩ (.int .i64 hd)).setCell ⟨r,5,none⟩ (.int .i64 sz)).setCell ⟨r,6,none⟩ (.slice A3 gl.length c3)).setCell ⟨r,7,none⟩ (.slice A4 gh.length c4)) from by
    rw [HUU.out,if_pos trivial,HTT.out]
    have hne:=HPR.out.2
    exact ⟨⟨A5,c5,A3,c3,A4,c4⟩,rfl,SR.sets (S:=⟨S.lv,S.lo,S.hi,cs,hd,sz,gl,gh⟩) (D:=⟨A5,c5,A3,c3,A4,c4⟩) ⟨offb_nw N9.out (Nat.lt_succ_self r),offb_nw N5.out.1 (Nat.lt_succ_self r),offb_nw N5.out.2 (Nat.lt_succ_self r)⟩ (Sh.l8 ⟨S.lv,S.lo,S.hi,cs,hd,sz,gl,gh⟩ ⟨A5,c5,A3,c3,A4,c4⟩) 0 _ H9.out.sr,fun z hz hZ=>⟨offb_nw N9.out (show z<r+1 by omega),offb_nw N5.out.1 (show z<r+1 by omega),offb_nw N5.out.2 (show z<r+1 by omega)⟩,set8s_below (show w.heap.size≤r by omega) H9.out.bel ⟨S.lv,S.lo,S.hi,cs,hd,sz,gl,gh⟩ ⟨A5,c5,A3,c3,A4,c4⟩⟩)
   obtain ⟨⟨t0,t1,t2,t3,t4,t5,t6,t7,tl⟩,⟨f0,f1,f2,f3,f4,f5,f6,f7⟩⟩:=H8.out.s8.all
   obtain ⟨⟨r0,r1,r2,r3,r4,r5,r6,r7,rl⟩,⟨g0,g1,g2,g3,g4,g5,g6,g7⟩⟩:=R8.out.all
   obtain ⟨⟨hpr,hrp,hpq,hqp⟩,-,-,-⟩:=HPR.out
   go_wp2
   exact bodyPost_ret (v:=.tuple #[.agg #[.bool S.lv,.int .i64 S.lo,.int .i64 S.hi,.slice A5 cs.length c5,.int .i64 hd,.int .i64 sz,.slice A3 gl.length c3,.slice A4 gh.length c4],.int .i64 0]) (by simp only [results,Tryz.results37];go_simp <;> rfl) rfl HF.out
  | false=>
   have HC:=Lh (show nkC S.cs S.hd S.sz M lim=pfC S.cs S.hd S.sz M∧nkH S.cs S.hd S.sz M lim=pfH S.cs S.hd S.sz M by unfold nkC nkH;rw [hsp];exact ⟨rfl,rfl⟩)
   rw [hsp] at HSP
   rw [HC.out.1,HC.out.2] at HTT
   generalize pfC S.cs S.hd S.sz M=cs at*
   generalize pfH S.cs S.hd S.sz M=hd at*
   generalize ifE (puE S.cs S.hd S.sz M) (S.sz+1)=sz at*
   generalize puE S.cs S.hd S.sz M=pE at*
   clear hsp HC
   refine (HSP.out _).mono ?_
   rintro e w7 ⟨rfl,hb⟩
   have H7:=Lh (H6.out.below hb)
   have R7:=Lh (R6.out.up hb)
   have M7:=Lh (HM6.out.up hb)
   clear hb H6 R6 HM6
   obtain ⟨t0,t1,t2,t3,t4,t5,t6,t7,tl⟩:=H7.out.s8.facts
   obtain ⟨⟨x0,x1,x2,x3,x4,x5,x6⟩,-,hbl⟩:=M7.out
   go_wp2_with fail
   clear t0 t1 t2 t3 t4 t5 t6 t7 tl x0 x1 x2 x3 x4 x5 x6 hbl M7
   refine (HPF.out _ _ _ _ _ _ H7.out).mono ?_
   rintro e w8 ⟨A5,c5,rfl,n5,h5,hb⟩
   have H8:=Lh (H7.out.below hb)
   have R8:=Lh (R7.out.up hb)
   have H9:=Lh (show SAt w p ⟨S.lv,S.lo,S.hi,cs,hd,sz,gl,gh⟩ ⟨A5,c5,A3,c3,A4,c4⟩ (((w8.setCell ⟨p,3,none⟩ (.slice A5 cs.length c5)).setCell ⟨p,4,none⟩ (.int .i64 hd)).setCell ⟨p,5,none⟩ (.int .i64 sz)) from H8.out.setRing hd sz h5 (offb_nw n5 H7.out.lt))
   have N9:=Lh (show Nw (r+1) A5 from nw_low n5 R7.out.lt)
   clear n5 h5 hb
   have HF:=Lh (show SE8 w S D U 0 (.returned (.tuple #[.agg #[.bool S.lv,.int .i64 S.lo,.int .i64 S.hi,.slice A5 cs.length c5,.int .i64 hd,.int .i64 sz,.slice A3 gl.length c3,.slice A4 gh.length c4],.int .i64 0])) (((((((((((w8.setCell ⟨p,3,none⟩ (.slice A5 cs.length c5)).setCell ⟨p,4,none⟩ (.int .i64 hd)).setCell ⟨p,5,none⟩ (.int .i64 sz)).setCell ⟨r,0,none⟩ (.bool S.lv)).setCell ⟨r,1,none⟩ (.int .i64 S.lo)).setCell ⟨r,2,none⟩ (.int .i64 S.hi)).setCell ⟨r,3,none⟩ (.slice A5 cs.length c5)).setCell ⟨r,4,none⟩ (.int .i64 hd)).setCell ⟨r,5,none⟩ (.int .i64 sz)).setCell ⟨r,6,none⟩ (.slice A3 gl.length c3)).setCell ⟨r,7,none⟩ (.slice A4 gh.length c4)) from by
    rw [HUU.out,if_pos trivial,HTT.out]
    have hne:=HPR.out.2
    exact ⟨⟨A5,c5,A3,c3,A4,c4⟩,rfl,SR.sets (S:=⟨S.lv,S.lo,S.hi,cs,hd,sz,gl,gh⟩) (D:=⟨A5,c5,A3,c3,A4,c4⟩) ⟨offb_nw N9.out (Nat.lt_succ_self r),offb_nw N5.out.1 (Nat.lt_succ_self r),offb_nw N5.out.2 (Nat.lt_succ_self r)⟩ (Sh.l8 ⟨S.lv,S.lo,S.hi,cs,hd,sz,gl,gh⟩ ⟨A5,c5,A3,c3,A4,c4⟩) 0 _ H9.out.sr,fun z hz hZ=>⟨offb_nw N9.out (show z<r+1 by omega),offb_nw N5.out.1 (show z<r+1 by omega),offb_nw N5.out.2 (show z<r+1 by omega)⟩,set8s_below (show w.heap.size≤r by omega) H9.out.bel ⟨S.lv,S.lo,S.hi,cs,hd,sz,gl,gh⟩ ⟨A5,c5,A3,c3,A4,c4⟩⟩)
   obtain ⟨⟨t0,t1,t2,t3,t4,t5,t6,t7,tl⟩,⟨f0,f1,f2,f3,f4,f5,f6,f7⟩⟩:=H8.out.s8.all
   obtain ⟨⟨r0,r1,r2,r3,r4,r5,r6,r7,rl⟩,⟨g0,g1,g2,g3,g4,g5,g6,g7⟩⟩:=R8.out.all
   obtain ⟨⟨hpr,hrp,hpq,hqp⟩,-,-,-⟩:=HPR.out
   go_wp2
   exact bodyPost_ret (v:=.tuple #[.agg #[.bool S.lv,.int .i64 S.lo,.int .i64 S.hi,.slice A5 cs.length c5,.int .i64 hd,.int .i64 sz,.slice A3 gl.length c3,.slice A4 gh.length c4],.int .i64 0]) (by simp only [results,Tryz.results37];go_simp <;> rfl) rfl HF.out
 ·have hne:(x != 0)=true:=bne_iff_ne.2 hx
  have HF:=Lh (show SE8 w S D U x (.returned (.tuple #[.agg #[.bool false,.int .i64 0,.int .i64 0,.slice none 0 0,.int .i64 0,.int .i64 0,.slice none 0 0,.slice none 0 0],.int .i64 x])) (z8 w2 r) from by
   rw [HUU.out,if_neg hx]
   have hne:=HPR.out.2
   exact (se_zero (by omega) H1.out.bel).to8)
  clear hx
  obtain ⟨⟨r0,r1,r2,r3,r4,r5,r6,r7,rl⟩,⟨g0,g1,g2,g3,g4,g5,g6,g7⟩⟩:=R1.out.all
  go_wp2
  exact bodyPost_ret (v:=.tuple #[.agg #[.bool false,.int .i64 0,.int .i64 0,.slice none 0 0,.int .i64 0,.int .i64 0,.slice none 0 0,.slice none 0 0],.int .i64 x]) (by simp only [results,Tryz.results37];go_simp <;> rfl) rfl HF.out
noncomputable def ctB (S:Sh) (ep lim:Int):Bool:=decide (exS S (wi ep 0 65536&&wi lim 1 8)=0)
noncomputable def ctR (S:Sh) (ep lim:Int):Int:=if ctB S ep lim=true then (((lsF S.cs S.hd S.sz).countP (fun M=>!puF M ep&&!spF M lim):Nat):Int) else 0
noncomputable def ctL (S:Sh) (ep lim:Int):Int:=if ctB S ep lim=true then (((S.l.map Le.m).countP (fun M=>!puF M ep):Nat):Int) else 0
theorem ct_no {S:Sh} {ep lim:Int} (h:ctB S ep lim=false):ctR S ep lim=0∧ctL S ep lim=0:=by unfold ctR ctL;rw [h];exact ⟨rfl,rfl⟩
theorem ct_yes {S:Sh} {ep lim:Int} (h:ctB S ep lim=true):ctR S ep lim=(((lsF S.cs S.hd S.sz).countP (fun M=>!puF M ep&&!spF M lim):Nat):Int)∧ctL S ep lim=(((S.l.map Le.m).countP (fun M=>!puF M ep):Nat):Int):=by unfold ctR ctL;rw [h];exact ⟨rfl,rfl⟩
theorem cnt_succ {p:Msg→Bool} {l:List Msg} {k:Nat} (h:k<l.length):(l.take (k+1)).countP p=(l.take k).countP p+(if p l[k]=true then 1 else 0):=by
 rw [←List.take_append_getElem h,List.countP_append];simp [List.countP_cons]
theorem cnt_le (p:Msg→Bool) (l:List Msg) (k:Nat):(l.take k).countP p≤l.length:=Nat.le_trans (List.countP_le_length ..) (by simp;omega)
structure CtAt (w:World) (p:Nat) (S:Sh) (D:Sx) (v v' : Value) (L L' : List Msg) (W:World):Prop where
 sa:SAt w p S D W
 ls:Ls W W.heap.size v L
 ls' : Ls W W.heap.size v' L'
theorem CtAt.below {w W W' : World} {p:Nat} {S:Sh} {D:Sx} {v v' : Value} {L L' : List Msg} (h:CtAt w p S D v v' L L' W) (hb:Below W.heap.size W W'):CtAt w p S D v v' L L' W':=⟨h.sa.below hb,h.ls.upz hb,h.ls'.upz hb⟩
set_option maxHeartbeats 8000000 in
set_option maxRecDepth 20000 in
theorem rcounts7_any (S:Sh) (D:Sx) (ep lim:Int) (w:World) (hs:SR w w.heap.size S D) :
  Calls Tryz.prog 19 #[sv S D,.int .i64 ep,.int .i64 lim] w fun e w'=>e=.returned (.tuple #[.int .i64 (ctR S ep lim),.int .i64 (ctL S ep lim)])∧Below w.heap.size w w':=by
 have H0:=Lh (SAt.start 33 hs)
 have HV:=Lh (fun p W (k:SAt w p S D W)=>rlive7_any S D W k.sr)
 have HEP:=Lh (fun W=>repochs_any ep W)
 have HLI:=Lh (fun W=>rlimits_any lim W)
 clear hs
 go_enter Tryz.func19,Tryz.ntmps19
 obtain ⟨t0,t1,t2,t3,t4,t5,t6,t7,tl⟩:=H0.out.s8.facts
 go_wp2_with fail
 clear t0 t1 t2 t3 t4 t5 t6 t7 tl
 obtain ⟨p,hp⟩:∃ p,p=w.heap.size:=⟨_,rfl⟩
 rw [←hp]
 rw [←hp] at H0
 clear hp
 generalize w.alloc (.cells #[.bool S.lv,.int .i64 S.lo,.int .i64 S.hi,.slice D.A S.cs.length D.c,.int .i64 S.hd,.int .i64 S.sz,.slice D.A2 S.l.length D.c2,.slice D.A3 S.h.length D.c3] 33)=w1 at*
 refine (HV.out _ _ H0.out).mono ?_
 rintro e w2 ⟨rfl,hb⟩
 have H1:=Lh (H0.out.below hb)
 clear hb
 by_cases h1:exS S true=0
 ·obtain ⟨hv,hlv,-⟩:=exS_zero h1
  rw [h1]
  cases hb1:wi ep 0 65536 with
  | false=>
   have HX:=Lh (ct_no (S:=S) (ep:=ep) (lim:=lim) (by unfold ctB;rw [hb1,exS_num (b:=false&&wi lim 1 8) hv hlv rfl];rfl))
   rw [hb1] at HEP
   clear h1 hv hlv hb1
   go_wp2_with fail
   refine (HEP.out _).mono ?_
   rintro e w3 ⟨rfl,rfl⟩
   go_wp2
   exact bodyPost_ret (v:=.tuple #[.int .i64 0,.int .i64 0]) (by simp only [results,Tryz.results19];go_simp <;> rfl) rfl ⟨by rw [HX.out.1,HX.out.2],H1.out.bel⟩
  | true=>
   cases hb2:wi lim 1 8 with
   | false=>
    have HX:=Lh (ct_no (S:=S) (ep:=ep) (lim:=lim) (by unfold ctB;rw [hb1,hb2,exS_num (b:=true&&false) hv hlv rfl];rfl))
    rw [hb1] at HEP
    rw [hb2] at HLI
    clear h1 hv hlv hb1 hb2
    go_wp2_with fail
    refine (HEP.out _).mono ?_
    rintro e w3 ⟨rfl,rfl⟩
    go_wp2_with fail
    refine (HLI.out _).mono ?_
    rintro e w3 ⟨rfl,rfl⟩
    go_wp2
    exact bodyPost_ret (v:=.tuple #[.int .i64 0,.int .i64 0]) (by simp only [results,Tryz.results19];go_simp <;> rfl) rfl ⟨by rw [HX.out.1,HX.out.2],H1.out.bel⟩
   | true=>
    have HX:=Lh (ct_yes (S:=S) (ep:=ep) (lim:=lim) (by unfold ctB;rw [hb1,hb2,exS_ok (b:=true&&true) hv hlv rfl];rfl))
    rw [hb1] at HEP
    rw [hb2] at HLI
    have hn:=ex_nums h1
    have HRE:=Lh (fun W (q:SAt w p S D W)=>rready_any S D W q.sr)
    have HLE:=Lh (fun W (q:SAt w p S D W)=>rleased_any S D W q.sr (by omega))
    have HN1:=Lh (show (lsF S.cs S.hd S.sz).length≤1000 from Nat.le_trans (lsF_le _ _ _) (by omega))
    have HN2:=Lh (show (S.l.map Le.m).length≤1000 by simp;omega)
    generalize lsF S.cs S.hd S.sz=L at*
    generalize S.l.map Le.m=L' at*
    clear h1 hv hlv hb1 hb2 hn
    go_wp2_with fail
    refine (HEP.out _).mono ?_
    rintro e w3 ⟨rfl,rfl⟩
    go_wp2_with fail
    refine (HLI.out _).mono ?_
    rintro e w3 ⟨rfl,rfl⟩
    go_wp2_with fail
    have HK0:=Lh H1.out.k8
    have HD:=Lh H1.out.drew
    have HK1:=Lh HD.out.k8
    go_region_held3 (fun W=>K8 p S D W)
     (first | with_reducible exact HK1.out | with_reducible exact HK2.out | with_reducible exact HK3.out | with_reducible exact HK0.out)
     (first
     | (go_at_call 56;(with_reducible refine (HRE.out _ HD.out).mono ?_);rintro e w4 ⟨A4,c4,rfl,hl,hb⟩;have H4:=Lh (HD.out.below hb);have HK2:=Lh H4.out.k8;have HL4:=Lh hl;clear hl hb)
     | (go_at_call 57;(with_reducible refine (HLE.out _ H4.out).mono ?_);rintro e w5 ⟨A5,c5,rfl,hl,hb⟩;have HC:=Lh (CtAt.mk (H4.out.below hb) (HL4.out.upz hb) hl);have HK3:=Lh HC.out.sa.k8;clear hl hb))
    clear HK0 HD HK1 HK2 HK3 H4 HL4 H1 H0 HV HEP HLI HRE HLE
    go_wp2_with fail
    have HPU:=Lh (fun M W=>rpurged_any M ep W)
    have HSP:=Lh (fun M W=>rspent_any M lim W)
    have HF1:=Lh (fun M=>show (fun M=>!puF M ep&&!spF M lim) M=(!puF M ep&&!spF M lim) from rfl)
    have HF2:=Lh (fun M=>show (fun M=>!puF M ep) M=(!puF M ep) from rfl)
    generalize (fun M=>!puF M ep&&!spF M lim)=f1 at*
    generalize (fun M=>!puF M ep)=f2 at*
    have hl1:L.length≤9223372036854775807:=by have:=HN1.out;omega
    have hl2:L'.length≤9223372036854775807:=by have:=HN2.out;omega
    have HT1:=Lh (show L.countP f1=(L.take L.length).countP f1 by rw [List.take_length])
    have HT2:=Lh (show L'.countP f2=(L'.take L'.length).countP f2 by rw [List.take_length])
    go_loopw [8,12] (fun n i wr=>∃ k:Nat,k≤L.length∧i=.int .i64 k∧n=.int .i64 (((L.take k).countP f1:Nat):Int)∧Hid (CtAt w p S D (.slice A4 L.length c4) (.slice A5 L'.length c5) L L' wr)) (fun _ i _=>L.length - (intOf i).toNat)
    case atStart=>exact ⟨0,Nat.zero_le _,rfl,rfl,HC⟩
    case round=>
     obtain ⟨k,hk,rfl,rfl,H6⟩:=hrel
     clear HC
     by_cases hlt:k<L.length
     ·have HSU:=Lh (cnt_succ (p:=f1) hlt)
      have hcl:=Nat.le_trans (cnt_le f1 L k) HN1.out
      have HAT:=Lh (fun W (q:CtAt w p S D (.slice A4 L.length c4) (.slice A5 L'.length c5) L L' W)=>q.ls.at_ hlt)
      obtain ⟨b,o,rfl,hbl,x0,x1,x2,x3,x4,x5,x6⟩:=H6.out.ls.at_ hlt
      have HFX:=Lh (HF1.out L[k])
      generalize hmm:(L.take (k+1)).countP f1=m' at*
      have HMM:=Lh hmm
      clear hmm
      generalize (L.take k).countP f1=m at*
      generalize L[k]=X at*
      have hw:IntKind.i64.wrap ((m:Int)+1)=(m:Int)+1:=IntWalk.i64_in _ (by omega)
      have HP:=Lh (HPU.out X)
      have HS:=Lh (HSP.out X)
      cases hp:puF X ep with
      | true=>
       rw [hp] at HP
       have HM:=Lh (show m' = m by rw [HSU.out,HFX.out,hp];simp)
       clear hp
       go_wp2_with fail
       refine (HP.out _).mono ?_
       rintro e w6 ⟨rfl,hb⟩
       have H7:=Lh (H6.out.below hb)
       clear hb x0 x1 x2 x3 x4 x5 x6 hbl
       go_wp2
       go_roundw
       case rel=>exact ⟨k+1,by omega,by go_num,by rw [HMM.out,HM.out],H7⟩
       case measure=>simp [intOf];omega
      | false=>
       rw [hp] at HP
       go_wp2_with fail
       refine (HP.out _).mono ?_
       rintro e w6 ⟨rfl,hb⟩
       have H7:=Lh (H6.out.below hb)
       clear hb x0 x1 x2 x3 x4 x5 x6 hbl
       obtain ⟨b',o',hbo,hbl,x0,x1,x2,x3,x4,x5,x6⟩:=HAT.out _ H7.out
       injection hbo with hbo
       injection hbo with hb1 ho1
       subst hb1;subst ho1
       cases hq:spF X lim with
       | true=>
        rw [hq] at HS
        have HM:=Lh (show m' = m by rw [HSU.out,HFX.out,hp,hq];simp)
        clear hp hq
        go_wp2_with fail
        refine (HS.out _).mono ?_
        rintro e w7 ⟨rfl,hb⟩
        have H8:=Lh (H7.out.below hb)
        clear hb x0 x1 x2 x3 x4 x5 x6 hbl
        go_wp2
        go_roundw
        case rel=>exact ⟨k+1,by omega,by go_num,by rw [HMM.out,HM.out],H8⟩
        case measure=>simp [intOf];omega
       | false=>
        rw [hq] at HS
        have HM:=Lh (show m' = m+1 by rw [HSU.out,HFX.out,hp,hq];simp)
        clear hp hq
        go_wp2_with fail
        refine (HS.out _).mono ?_
        rintro e w7 ⟨rfl,hb⟩
        have H8:=Lh (H7.out.below hb)
        clear hb x0 x1 x2 x3 x4 x5 x6 hbl
        go_wp2
        go_roundw
        case rel=>exact ⟨k+1,by omega,by go_num,by rw [HMM.out,HM.out];go_num,H8⟩
        case measure=>simp [intOf];omega
     ·obtain rfl:k=L.length:=by omega
      rw [←HT1.out]
      generalize L.countP f1=m1 at*
      go_wp2
      go_loopw [9,13] (fun n i wr=>∃ k:Nat,k≤L'.length∧i=.int .i64 k∧n=.int .i64 (((L'.take k).countP f2:Nat):Int)∧Hid (CtAt w p S D (.slice A4 L.length c4) (.slice A5 L'.length c5) L L' wr)) (fun _ i _=>L'.length - (intOf i).toNat)
      case atStart=>exact ⟨0,Nat.zero_le _,rfl,rfl,H6⟩
      case round=>
       obtain ⟨k,hk',rfl,rfl,H6⟩:=hrel
       by_cases hlt' : k<L'.length
       ·have HSU:=Lh (cnt_succ (p:=f2) hlt')
        have hcl:=Nat.le_trans (cnt_le f2 L' k) HN2.out
        obtain ⟨b,o,rfl,hbl,x0,x1,x2,x3,x4,x5,x6⟩:=H6.out.ls'.at_ hlt'
        have HFX:=Lh (HF2.out L'[k])
        generalize hmm:(L'.take (k+1)).countP f2=m' at*
        have HMM:=Lh hmm
        clear hmm
        generalize (L'.take k).countP f2=m at*
        generalize L'[k]=X at*
        have hw:IntKind.i64.wrap ((m:Int)+1)=(m:Int)+1:=IntWalk.i64_in _ (by omega)
        have HP:=Lh (HPU.out X)
        cases hp:puF X ep with
        | true=>
         rw [hp] at HP
         have HM:=Lh (show m' = m by rw [HSU.out,HFX.out,hp];simp)
         clear hp
         go_wp2_with fail
         refine (HP.out _).mono ?_
         rintro e w6 ⟨rfl,hb⟩
         have H7:=Lh (H6.out.below hb)
         clear hb x0 x1 x2 x3 x4 x5 x6 hbl
         go_wp2
         go_roundw
         case rel=>exact ⟨k+1,by omega,by go_num,by rw [HMM.out,HM.out],H7⟩
         case measure=>simp [intOf];omega
        | false=>
         rw [hp] at HP
         have HM:=Lh (show m' = m+1 by rw [HSU.out,HFX.out,hp];simp)
         clear hp
         go_wp2_with fail
         refine (HP.out _).mono ?_
         rintro e w6 ⟨rfl,hb⟩
         have H7:=Lh (H6.out.below hb)
         clear hb x0 x1 x2 x3 x4 x5 x6 hbl
         go_wp2
         go_roundw
         case rel=>exact ⟨k+1,by omega,by go_num,by rw [HMM.out,HM.out];go_num,H7⟩
         case measure=>simp [intOf];omega
       ·obtain rfl:k=L'.length:=by omega
        rw [←HT2.out]
        generalize L'.countP f2=m2 at*
        go_wp2
        exact bodyPost_ret (v:=.tuple #[.int .i64 m1,.int .i64 m2]) (by simp only [results,Tryz.results19];go_simp <;> rfl) rfl ⟨by rw [HX.out.1,HX.out.2],H6.out.sa.bel⟩
 ·have HX:=Lh (ct_no (S:=S) (ep:=ep) (lim:=lim) (by
   unfold ctB
   exact decide_eq_false (fun e=>h1 (by obtain ⟨a,b,-⟩:=exS_zero e;exact exS_ok a b rfl))))
  have hne:(exS S true != 0)=true:=bne_iff_ne.2 h1
  clear h1
  generalize exS S true=x at*
  go_wp2
  exact bodyPost_ret (v:=.tuple #[.int .i64 0,.int .i64 0]) (by simp only [results,Tryz.results19];go_simp <;> rfl) rfl ⟨by rw [HX.out.1,HX.out.2],H1.out.bel⟩
set_option maxHeartbeats 8000000 in
set_option maxRecDepth 20000 in
theorem scounts_any (S:Sh) (D:Sx) (ep lim:Int) (w:World) (hs:SR w w.heap.size S D) :
  Calls Tryz.prog 18 #[sv S D,.int .i64 ep,.int .i64 lim] w fun e w'=>e=.returned (.tuple #[.int .i64 (ctR S ep lim),.int .i64 (ctL S ep lim)])∧Below w.heap.size w w':=by
 have H0:=Lh (SAt.start 33 hs)
 have HV:=Lh (fun A c p W (k:SAt w p S D W) (hn:Nl W W.heap.size (.slice A 2 c) [⟨ep,0,65536⟩,⟨lim,1,8⟩])=>sexam_any S D A 2 c [⟨ep,0,65536⟩,⟨lim,1,8⟩] W k.sr hn)
 have HE:([⟨ep,0,65536⟩,⟨lim,1,8⟩]:List Rn).all Rn.ok=(wi ep 0 65536&&wi lim 1 8):=by simp [Rn.ok]
 rw [HE] at HV
 clear HE hs
 have HP:=Lh (fun W=>aepoch_any ep W)
 have HT:=Lh (fun W=>alimit_any lim W)
 go_enter Tryz.func18,Tryz.ntmps18
 obtain ⟨t0,t1,t2,t3,t4,t5,t6,t7,tl⟩:=H0.out.s8.facts
 go_upto_region 1 with (fail)
 clear t0 t1 t2 t3 t4 t5 t6 t7 tl
 obtain ⟨p,hp⟩:∃ p,p=w.heap.size:=⟨_,rfl⟩
 rw [←hp]
 rw [←hp] at H0
 clear hp
 generalize w.alloc (.cells #[.bool S.lv,.int .i64 S.lo,.int .i64 S.hi,.slice D.A S.cs.length D.c,.int .i64 S.hd,.int .i64 S.sz,.slice D.A2 S.l.length D.c2,.slice D.A3 S.h.length D.c3] 33)=w1 at*
 have HD:=Lh H0.out.drew
 have HT0:=Lh (show K8 p S D w1.drew from HD.out.k8)
 go_region_held3 (fun W=>K8 p S D W)
  (first | with_reducible exact HT0.out | with_reducible exact HT1.out | with_reducible exact HT2.out | with_reducible exact HT3.out | with_reducible exact HT4.out)
  (first
  | (go_at_call 48;(with_reducible refine (HP.out _).mono ?_);rintro e w3 ⟨rfl,hb⟩;have HA1:=Lh (HD.out.below hb);have HT1:=Lh HA1.out.k8;clear hb)
  | (go_at_call 49;(with_reducible refine (HT.out _).mono ?_);rintro e w4 ⟨rfl,hb⟩;have HA2:=Lh (HA1.out.below hb);have HT2:=Lh HA2.out.k8;have HA3:=Lh (HA2.out.alloc (.cells #[.int .i64 ep,.int .i64 0,.int .i64 65536,.int .i64 lim,.int .i64 1,.int .i64 8] 81));have HT3:=Lh HA3.out.k8;have HNL:=Lh (nl_two w4 ⟨ep,0,65536⟩ ⟨lim,1,8⟩ 81);clear hb)
  | (go_at_call 47;(with_reducible refine (HV.out _ _ _ _ HA3.out ?_).mono ?_);(have:=HNL.out;simpa using this);rintro e w5 ⟨rfl,hb⟩;have HA4:=Lh (HA3.out.below hb);have HT4:=Lh HA4.out.k8;clear hb))
 clear H0 HD HT0 HA1 HT1 HA2 HT2 HA3 HT3 HNL HT4 HT HP HV
 by_cases h1:exS S (wi ep 0 65536&&wi lim 1 8)=0
 ·have HX:=Lh (ct_yes (S:=S) (ep:=ep) (lim:=lim) (by unfold ctB;rw [h1];rfl))
  have hn:=ex_nums (show exS S true=0 by obtain ⟨a,b,-⟩:=exS_zero h1;exact exS_ok a b rfl)
  rw [h1]
  have HRE:=Lh (fun W (q:SAt w p S D W)=>glist_any D.A S.cs.length D.c S.cs S.hd S.sz W q.sr.ls)
  have HN1:=Lh (show (lsF S.cs S.hd S.sz).length≤1000 from Nat.le_trans (lsF_le _ _ _) (by omega))
  have HN2:=Lh (show S.l.length≤1000 by omega)
  generalize lsF S.cs S.hd S.sz=L at*
  clear h1 hn
  obtain ⟨t0,t1,t2,t3,t4,t5,t6,t7,tl⟩:=HA4.out.s8.facts
  go_wp2_with fail
  clear t0 t1 t2 t3 t4 t5 t6 t7 tl
  refine (HRE.out _ HA4.out).mono ?_
  rintro e w6 ⟨v4,rfl,-,hl,hb⟩
  obtain ⟨A4,c4,rfl,_,_⟩:=hl.form
  have HC:=Lh (CtAt.mk (HA4.out.below hb) hl Ls.nil)
  clear hl hb HA4
  obtain ⟨t0,t1,t2,t3,t4,t5,t6,t7,tl⟩:=HC.out.sa.s8.facts
  go_wp2
  clear t0 t1 t2 t3 t4 t5 t6 t7 tl HRE
  have HPU:=Lh (fun M W=>purged_any M ep W)
  have HSP:=Lh (fun M W=>spent_any M lim W)
  have HF1:=Lh (fun M=>show (fun M=>!puF M ep&&!spF M lim) M=(!puF M ep&&!spF M lim) from rfl)
  have HF2:=Lh (fun M=>show (fun M=>!puF M ep) M=(!puF M ep) from rfl)
  generalize (fun M=>!puF M ep&&!spF M lim)=f1 at*
  generalize (fun M=>!puF M ep)=f2 at*
  have hl1:L.length≤9223372036854775807:=by have:=HN1.out;omega
  have HT1:=Lh (show L.countP f1=(L.take L.length).countP f1 by rw [List.take_length])
  go_loopw [6,24] (fun n i wr=>∃ k:Nat,k≤L.length∧i=.int .i64 k∧n=.int .i64 (((L.take k).countP f1:Nat):Int)∧Hid (CtAt w p S D (.slice A4 L.length c4) (.slice none 0 0) L [] wr)) (fun _ i _=>L.length - (intOf i).toNat)
  case atStart=>exact ⟨0,Nat.zero_le _,rfl,rfl,HC⟩
  case round=>
   obtain ⟨k,hk,rfl,rfl,H6⟩:=hrel
   clear HC
   by_cases hlt:k<L.length
   ·have HSU:=Lh (cnt_succ (p:=f1) hlt)
    have hcl:=Nat.le_trans (cnt_le f1 L k) HN1.out
    obtain ⟨b,o,rfl,hbl,x0,x1,x2,x3,x4,x5,x6⟩:=H6.out.ls.at_ hlt
    have HFX:=Lh (HF1.out L[k])
    generalize hmm:(L.take (k+1)).countP f1=m' at*
    have HMM:=Lh hmm
    clear hmm
    generalize (L.take k).countP f1=m at*
    generalize L[k]=X at*
    have hw:IntKind.i64.wrap ((m:Int)+1)=(m:Int)+1:=IntWalk.i64_in _ (by omega)
    have HP:=Lh (HPU.out X)
    have HS:=Lh (HSP.out X)
    have HPA:=Lh (H6.out.below ((Below.refl _ _).alloc (Nat.le_refl _) (.cells #[.int .i64 X.id,.int .i64 X.rt,.int .i64 X.ep,.int .i64 X.ct,.int .i64 X.gn,.int .i64 X.st,.string X.bd] 44)))
    have HMX:=Lh (MBx.start wr X 44)
    cases hp:puF X ep with
    | true=>
     rw [hp] at HP
     have HM:=Lh (show m' = m by rw [HSU.out,HFX.out,hp];simp)
     clear hp
     go_wp2_with fail
     refine (HP.out _).mono ?_
     rintro e w6 ⟨rfl,hb⟩
     have H7:=Lh (HPA.out.below hb)
     clear hb x0 x1 x2 x3 x4 x5 x6 hbl
     go_wp2
     go_roundw
     case rel=>exact ⟨k+1,by omega,by go_num,by rw [HMM.out,HM.out],H7⟩
     case measure=>simp [intOf];omega
    | false=>
     rw [hp] at HP
     go_wp2_with fail
     refine (HP.out _).mono ?_
     rintro e w6 ⟨rfl,hb⟩
     have H7:=Lh (HPA.out.below hb)
     have HM7:=Lh (HMX.out.up hb)
     clear hb x0 x1 x2 x3 x4 x5 x6 hbl
     obtain ⟨⟨x0,x1,x2,x3,x4,x5,x6⟩,-,hbl⟩:=HM7.out
     generalize wr.heap.size=q at*
     cases hq:spF X lim with
     | true=>
      rw [hq] at HS
      have HM:=Lh (show m' = m by rw [HSU.out,HFX.out,hp,hq];simp)
      clear hp hq
      go_wp2_with fail
      refine (HS.out _).mono ?_
      rintro e w7 ⟨rfl,hb⟩
      have H8:=Lh (H7.out.below hb)
      clear hb x0 x1 x2 x3 x4 x5 x6 hbl
      go_wp2
      go_roundw
      case rel=>exact ⟨k+1,by omega,by go_num,by rw [HMM.out,HM.out],H8⟩
      case measure=>simp [intOf];omega
     | false=>
      rw [hq] at HS
      have HM:=Lh (show m' = m+1 by rw [HSU.out,HFX.out,hp,hq];simp)
      clear hp hq
      go_wp2_with fail
      refine (HS.out _).mono ?_
      rintro e w7 ⟨rfl,hb⟩
      have H8:=Lh (H7.out.below hb)
      clear hb x0 x1 x2 x3 x4 x5 x6 hbl
      go_wp2
      go_roundw
      case rel=>exact ⟨k+1,by omega,by go_num,by rw [HMM.out,HM.out];go_num,H8⟩
      case measure=>simp [intOf];omega
   ·obtain rfl:k=L.length:=by omega
    rw [←HT1.out]
    generalize L.countP f1=m1 at*
    have HE:=Lh H6.out.sa.sr.el
    obtain ⟨t0,t1,t2,t3,t4,t5,t6,t7,tl⟩:=H6.out.sa.s8.facts
    generalize D.A2=A2 at*
    generalize D.c2=c2 at*
    go_wp2
    clear t0 t1 t2 t3 t4 t5 t6 t7 tl HSP HF1
    have HQ:=Lh (And.intro H6.out.sa HE.out)
    have hl2:S.l.length≤9223372036854775807:=by have:=HN2.out;omega
    have HT2:=Lh (show (S.l.map Le.m).countP f2=((S.l.map Le.m).take S.l.length).countP f2 by rw [show S.l.length=(S.l.map Le.m).length by simp,List.take_length])
    go_loopw [7,45] (fun n i wr=>∃ k:Nat,k≤S.l.length∧i=.int .i64 k∧n=.int .i64 ((((S.l.map Le.m).take k).countP f2:Nat):Int)∧Hid (SAt w p S D wr∧El wr wr.heap.size (.slice A2 S.l.length c2) S.l)) (fun _ i _=>S.l.length - (intOf i).toNat)
    case atStart=>exact ⟨0,Nat.zero_le _,rfl,rfl,HQ⟩
    case round=>
     clear H6 HE HQ
     obtain ⟨k,hk',rfl,rfl,H6⟩:=hrel
     by_cases hlt' : k<S.l.length
     ·have hlm:k<(S.l.map Le.m).length:=by simpa using hlt'
      have HSU:=Lh (cnt_succ (p:=f2) hlm)
      have hcl:((S.l.map Le.m).take k).countP f2≤1000:=Nat.le_trans (cnt_le f2 _ k) (by simpa using HN2.out)
      obtain ⟨b,o,rfl,hbl,x0,x1,x2,x3,x4,x5,x6,x7⟩:=H6.out.2.at_ hlt'
      have HFX:=Lh (HF2.out S.l[k].m)
      have HGM:=Lh (show (S.l.map Le.m)[k]'hlm=S.l[k].m by simp)
      generalize hmm:((S.l.map Le.m).take (k+1)).countP f2=m' at*
      have HMM:=Lh hmm
      clear hmm
      generalize ((S.l.map Le.m).take k).countP f2=m at*
      generalize (S.l.map Le.m)[k]'hlm=Y at*
      generalize S.l[k]=X at*
      have hw:IntKind.i64.wrap ((m:Int)+1)=(m:Int)+1:=IntWalk.i64_in _ (by omega)
      have HP:=Lh (HPU.out X.m)
      have HBA:=Lh ((Below.refl wr.heap.size wr).alloc (Nat.le_refl _) (.cells #[.int .i64 X.m.id,.int .i64 X.m.rt,.int .i64 X.m.ep,.int .i64 X.m.ct,.int .i64 X.m.gn,.int .i64 X.m.st,.string X.m.bd,.int .i64 X.dl] 56))
      cases hp:puF X.m ep with
      | true=>
       rw [hp] at HP
       have HM:=Lh (show m' = m by rw [HSU.out,HGM.out,HFX.out,hp];simp)
       clear hp
       go_wp2_with fail
       refine (HP.out _).mono ?_
       rintro e w6 ⟨rfl,hb⟩
       have HBB:=HBA.out.trans (hb.mono HBA.out.size)
       have H7:=Lh (And.intro (H6.out.1.below HBB) ((H6.out.2.below HBB).more HBB.size))
       clear hb x0 x1 x2 x3 x4 x5 x6 x7 hbl HBB
       go_wp2
       go_roundw
       case rel=>exact ⟨k+1,by omega,by go_num,by rw [HMM.out,HM.out],H7⟩
       case measure=>simp [intOf];omega
      | false=>
       rw [hp] at HP
       have HM:=Lh (show m' = m+1 by rw [HSU.out,HGM.out,HFX.out,hp];simp)
       clear hp
       go_wp2_with fail
       refine (HP.out _).mono ?_
       rintro e w6 ⟨rfl,hb⟩
       have HBB:=HBA.out.trans (hb.mono HBA.out.size)
       have H7:=Lh (And.intro (H6.out.1.below HBB) ((H6.out.2.below HBB).more HBB.size))
       clear hb x0 x1 x2 x3 x4 x5 x6 x7 hbl HBB
       go_wp2
       go_roundw
       case rel=>exact ⟨k+1,by omega,by go_num,by rw [HMM.out,HM.out];go_num,H7⟩
       case measure=>simp [intOf];omega
     ·obtain rfl:k=S.l.length:=by omega
      rw [←HT2.out]
      generalize (S.l.map Le.m).countP f2=m2 at*
      go_wp2
      exact bodyPost_ret (v:=.tuple #[.int .i64 m1,.int .i64 m2]) (by simp only [results,Tryz.results18];go_simp <;> rfl) rfl ⟨by rw [HX.out.1,HX.out.2],H6.out.1.bel⟩
 ·have HX:=Lh (ct_no (S:=S) (ep:=ep) (lim:=lim) (by unfold ctB;exact decide_eq_false h1))
  have hne:(exS S (wi ep 0 65536&&wi lim 1 8) != 0)=true:=bne_iff_ne.2 h1
  clear h1
  generalize exS S (wi ep 0 65536&&wi lim 1 8)=x at*
  go_wp2
  exact bodyPost_ret (v:=.tuple #[.int .i64 0,.int .i64 0]) (by simp only [results,Tryz.results18];go_simp <;> rfl) rfl ⟨by rw [HX.out.1,HX.out.2],HA4.out.bel⟩
structure Tl7 (w:World) (p q t:Nat) (S:Sh) (D:Sx) (H:Hn) (N:Nm) (W:World):Prop where
 sa:SAt w p S D W
 hn:H4 W q H
 nb:Nb W t N
theorem Tl7.below {w W W' : World} {p q t:Nat} {S:Sh} {D:Sx} {H:Hn} {N:Nm} (h:Tl7 w p q t S D H N W) (hb:Below W.heap.size W W'):Tl7 w p q t S D H N W':=⟨h.sa.below hb,h.hn.up hb,h.nb.up hb⟩
theorem Tl7.start (w:World) (S:Sh) (D:Sx) (H:Hn) (N:Nm) (hs:SR w w.heap.size S D):Tl7 w w.heap.size (w.heap.size+1) (w.heap.size+1+1) S D H N (((w.alloc (.cells #[.bool S.lv,.int .i64 S.lo,.int .i64 S.hi,.slice D.A S.cs.length D.c,.int .i64 S.hd,.int .i64 S.sz,.slice D.A2 S.l.length D.c2,.slice D.A3 S.h.length D.c3] 33)).alloc (.cells #[.int .i64 H.id,.int .i64 H.gn,.int .i64 H.rt,.int .i64 H.ht] 36)).alloc (.cells #[.int .i64 N.mx,.int .i64 N.now,.int .i64 N.vis,.int .i64 N.ep,.int .i64 N.lim,.int .i64 N.k,.int .i64 N.mid,.int .i64 N.rt] 39)):=by
 have e1:(w.alloc (.cells #[.bool S.lv,.int .i64 S.lo,.int .i64 S.hi,.slice D.A S.cs.length D.c,.int .i64 S.hd,.int .i64 S.sz,.slice D.A2 S.l.length D.c2,.slice D.A3 S.h.length D.c3] 33)).heap.size=w.heap.size+1:=by simp
 have e2:((w.alloc (.cells #[.bool S.lv,.int .i64 S.lo,.int .i64 S.hi,.slice D.A S.cs.length D.c,.int .i64 S.hd,.int .i64 S.sz,.slice D.A2 S.l.length D.c2,.slice D.A3 S.h.length D.c3] 33)).alloc (.cells #[.int .i64 H.id,.int .i64 H.gn,.int .i64 H.rt,.int .i64 H.ht] 36)).heap.size=w.heap.size+1+1:=by simp
 have h1:=(H4.start (w.alloc (.cells #[.bool S.lv,.int .i64 S.lo,.int .i64 S.hi,.slice D.A S.cs.length D.c,.int .i64 S.hd,.int .i64 S.sz,.slice D.A2 S.l.length D.c2,.slice D.A3 S.h.length D.c3] 33)) H 36).up ((Below.refl _ _).alloc (Nat.le_refl _) (.cells #[.int .i64 N.mx,.int .i64 N.now,.int .i64 N.vis,.int .i64 N.ep,.int .i64 N.lim,.int .i64 N.k,.int .i64 N.mid,.int .i64 N.rt] 39))
 have h2:=Nb.start ((w.alloc (.cells #[.bool S.lv,.int .i64 S.lo,.int .i64 S.hi,.slice D.A S.cs.length D.c,.int .i64 S.hd,.int .i64 S.sz,.slice D.A2 S.l.length D.c2,.slice D.A3 S.h.length D.c3] 33)).alloc (.cells #[.int .i64 H.id,.int .i64 H.gn,.int .i64 H.rt,.int .i64 H.ht] 36)) N 39
 rw [e1] at h1
 rw [e2] at h2
 exact ⟨((SAt.start 33 hs).alloc _).alloc _,h1,h2⟩
abbrev TlK (p q t:Nat) (S:Sh) (D:Sx) (H:Hn) (N:Nm) (W:World):Prop:=K8 p S D W∧W.cell? ⟨q,0,none⟩=some (.int .i64 H.id)∧W.cell? ⟨q,1,none⟩=some (.int .i64 H.gn)∧W.cell? ⟨q,2,none⟩=some (.int .i64 H.rt)∧W.cell? ⟨q,3,none⟩=some (.int .i64 H.ht)∧W.cell? ⟨t,1,none⟩=some (.int .i64 N.now)∧W.cell? ⟨t,3,none⟩=some (.int .i64 N.ep)∧W.cell? ⟨t,7,none⟩=some (.int .i64 N.rt)
theorem Tl7.k {w W:World} {p q t:Nat} {S:Sh} {D:Sx} {H:Hn} {N:Nm} (h:Tl7 w p q t S D H N W):TlK p q t S D H N W:=⟨h.sa.k8,h.hn.1,h.hn.2.1,h.hn.2.2.1,h.hn.2.2.2.1,h.nb.c1,h.nb.c3,h.nb.c7⟩
set_option maxHeartbeats 8000000 in
set_option maxRecDepth 20000 in
theorem tells7_any (S:Sh) (D:Sx) (H:Hn) (N:Nm) (w:World) (hs:SR w w.heap.size S D) :
  Calls Tryz.prog 8 #[sv S D,H.v,N.v] w fun e w'=>e=.returned (.bool true)∧Below w.heap.size w w':=by
 have HP:=Lh (Tl7.start w S D H N hs)
 have HC1:=Lh (fun p q t W (k:Tl7 w p q t S D H N W)=>scounts_any S D N.ep N.lim W k.sa.sr)
 have HC2:=Lh (fun p q t W (k:Tl7 w p q t S D H N W)=>rcounts7_any S D N.ep N.lim W k.sa.sr)
 have HV1:=Lh (fun p q t W (k:Tl7 w p q t S D H N W)=>svalid_any S D W k.sa.sr)
 have HV2:=Lh (fun p q t W (k:Tl7 w p q t S D H N W)=>rvalid7_any S D W k.sa.sr)
 have HS1:=Lh (fun p q t W (k:Tl7 w p q t S D H N W)=>sstored_any S D W k.sa.sr)
 have HS2:=Lh (fun p q t W (k:Tl7 w p q t S D H N W)=>rstored7_any S D W k.sa.sr)
 have HO1:=Lh (fun p q t W (k:Tl7 w p q t S D H N W)=>sowns_any S D N.rt W k.sa.sr)
 have HO2:=Lh (fun p q t W (k:Tl7 w p q t S D H N W)=>rowns7_any S D N.rt W k.sa.sr)
 have HH1:=Lh (fun p q t W (k:Tl7 w p q t S D H N W)=>sholds_any S D H N.now N.ep W k.sa.sr)
 have HH2:=Lh (fun p q t W (k:Tl7 w p q t S D H N W)=>rholds7_any S D H N.now N.ep W k.sa.sr)
 generalize ctR S N.ep N.lim=a at*
 generalize ctL S N.ep N.lim=b at*
 generalize shV S=c at*
 generalize stF S=d at*
 generalize owF S N.rt=o at*
 generalize hoF S H N.now N.ep=h at*
 clear hs
 go_enter Tryz.func8,Tryz.ntmps8
 go_wp2_with fail
 generalize (((w.alloc (.cells #[.bool S.lv,.int .i64 S.lo,.int .i64 S.hi,.slice D.A S.cs.length D.c,.int .i64 S.hd,.int .i64 S.sz,.slice D.A2 S.l.length D.c2,.slice D.A3 S.h.length D.c3] 33)).alloc (.cells #[.int .i64 H.id,.int .i64 H.gn,.int .i64 H.rt,.int .i64 H.ht] 36)).alloc (.cells #[.int .i64 N.mx,.int .i64 N.now,.int .i64 N.vis,.int .i64 N.ep,.int .i64 N.lim,.int .i64 N.k,.int .i64 N.mid,.int .i64 N.rt] 39))=w1 at*
 generalize w.heap.size+1+1=t at*
 generalize w.heap.size+1=q at*
 obtain ⟨p,hp⟩:∃ p,p=w.heap.size:=⟨_,rfl⟩
 rw [←hp]
 have HP1:=HP.out
 rw [←hp] at HP1
 clear HP hp
 have HP:=Lh HP1
 clear HP1
 refine (HC1.out _ _ _ _ HP.out).mono ?_
 rintro e w5 ⟨rfl,hb⟩
 have HP:=Lh (HP.out.below hb)
 clear hb
 obtain ⟨t0,t1,t2,t3,t4,t5,t6,t7,tl⟩:=HP.out.sa.s8.facts
 obtain ⟨q0,q1,q2,q3,ql⟩:=HP.out.hn
 obtain ⟨⟨n0,n1,n2,n3,n4,n5,n6,n7,nl⟩,-⟩:=HP.out.nb.all
 go_wp2_with fail
 clear t0 t1 t2 t3 t4 t5 t6 t7 tl q0 q1 q2 q3 ql n0 n1 n2 n3 n4 n5 n6 n7 nl
 refine (HC2.out _ _ _ _ HP.out).mono ?_
 rintro e w5 ⟨rfl,hb⟩
 have HP:=Lh (HP.out.below hb)
 clear hb
 obtain ⟨t0,t1,t2,t3,t4,t5,t6,t7,tl⟩:=HP.out.sa.s8.facts
 obtain ⟨q0,q1,q2,q3,ql⟩:=HP.out.hn
 obtain ⟨⟨n0,n1,n2,n3,n4,n5,n6,n7,nl⟩,-⟩:=HP.out.nb.all
 go_wp2_with fail
 clear t0 t1 t2 t3 t4 t5 t6 t7 tl q0 q1 q2 q3 ql n0 n1 n2 n3 n4 n5 n6 n7 nl
 have hc:(c==c)=true:=by simp
 have hd:(d==d)=true:=by simp
 have ho:(o==o)=true:=by simp
 have ha:(a==a)=true:=by simp
 have hb' : (b==b)=true:=by simp
 have hh' : (h==h)=true:=by simp
 have HK0:=Lh HP.out.k
 have HP0:=Lh (HP.out.below (Below.refl _ _).drew)
 clear HP
 have HP:=HP0
 clear HP0
 have HK:=Lh HP.out.k
 go_region_held3 (fun W=>TlK p q t S D H N W)
  (first | with_reducible exact HK.out | with_reducible exact HK0.out)
  (first
   | (go_at_call 18;(with_reducible refine (HC1.out _ _ _ _ HP.out).mono ?_);rintro e w5 ⟨rfl,hb⟩;have HP:=Lh (HP.out.below hb);have HK:=Lh HP.out.k;clear hb)
   | (go_at_call 19;(with_reducible refine (HC2.out _ _ _ _ HP.out).mono ?_);rintro e w5 ⟨rfl,hb⟩;have HP:=Lh (HP.out.below hb);have HK:=Lh HP.out.k;clear hb)
   | (go_at_call 20;(with_reducible refine (HV1.out _ _ _ _ HP.out).mono ?_);rintro e w5 ⟨rfl,hb⟩;have HP:=Lh (HP.out.below hb);have HK:=Lh HP.out.k;clear hb)
   | (go_at_call 21;(with_reducible refine (HV2.out _ _ _ _ HP.out).mono ?_);rintro e w5 ⟨rfl,hb⟩;have HP:=Lh (HP.out.below hb);have HK:=Lh HP.out.k;clear hb)
   | (go_at_call 22;(with_reducible refine (HS1.out _ _ _ _ HP.out).mono ?_);rintro e w5 ⟨rfl,hb⟩;have HP:=Lh (HP.out.below hb);have HK:=Lh HP.out.k;clear hb)
   | (go_at_call 23;(with_reducible refine (HS2.out _ _ _ _ HP.out).mono ?_);rintro e w5 ⟨rfl,hb⟩;have HP:=Lh (HP.out.below hb);have HK:=Lh HP.out.k;clear hb)
   | (go_at_call 24;(with_reducible refine (HO1.out _ _ _ _ HP.out).mono ?_);rintro e w5 ⟨rfl,hb⟩;have HP:=Lh (HP.out.below hb);have HK:=Lh HP.out.k;clear hb)
   | (go_at_call 25;(with_reducible refine (HO2.out _ _ _ _ HP.out).mono ?_);rintro e w5 ⟨rfl,hb⟩;have HP:=Lh (HP.out.below hb);have HK:=Lh HP.out.k;clear hb)
   | (go_at_call 26;(with_reducible refine (HH1.out _ _ _ _ HP.out).mono ?_);rintro e w5 ⟨rfl,hb⟩;have HP:=Lh (HP.out.below hb);have HK:=Lh HP.out.k;clear hb)
   | (go_at_call 27;(with_reducible refine (HH2.out _ _ _ _ HP.out).mono ?_);rintro e w5 ⟨rfl,hb⟩;have HP:=Lh (HP.out.below hb);have HK:=Lh HP.out.k;clear hb))
 go_wp2
 go_ret
 exact ⟨rfl,HP.out.sa.bel⟩
end Go.Proofs.YtdobenkkkkaipaaGreat
