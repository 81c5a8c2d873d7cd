/- What is proved here: shard.Ack by a contract; shard.Nack by a contract; Slv; Bnl; shardqueueref05.swap, up by contracts. -/
import Derived.Test.YtncgbldcjfbknaaGreatJ26
namespace Go.Proofs.YtncgbldcjfbknaaGreat
open Go.RowKit
set_option linter.unusedVariables false
/-- What Ack makes of a shard. -/
noncomputable def akF (S:Sh) (id:Int):Sh:=⟨S.lv,S.lo,S.hi,S.cs,S.hd,S.sz,rlL S.l S.h id,rlH S.l S.h id⟩
/-- The sizes that a copy needs. -/
def Sh.sz4 (S:Sh):Prop:=1≤S.cs.length∧S.cs.length≤1000∧S.l.length≤1000∧S.h.length≤1000
set_option maxHeartbeats 8000000 in
set_option maxRecDepth 20000 in
theorem sack_any (S:Sh) (D:Sx) (H:Hn) (now ep:Int) (w:World) (hs:SR w w.heap.size S D) (hn:heS S H now ep true=0→S.sz4) :
  Calls Tryz.prog 19 #[sv S D,H.v,.int .i64 now,.int .i64 ep] w (SE w (if heS S H now ep true=0 then akF S H.id else zS) (heS S H now ep true)):=by
 have e1:(w.alloc (.cells #[.bool S.lv,.int .i64 S.lo,.int .i64 S.hi,.slice D.A S.cs.length D.c,.int .i64 S.hd,.int .i64 S.sz,.slice D.A2 S.l.length D.c2,.slice D.A3 S.h.length D.c3] 33)).heap.size=w.heap.size+1:=by simp
 have e2:((w.alloc (.cells #[.bool S.lv,.int .i64 S.lo,.int .i64 S.hi,.slice D.A S.cs.length D.c,.int .i64 S.hd,.int .i64 S.sz,.slice D.A2 S.l.length D.c2,.slice D.A3 S.h.length D.c3] 33)).alloc (.cells #[.int .i64 H.id,.int .i64 H.gn,.int .i64 H.rt,.int .i64 H.ht] 40)).heap.size=w.heap.size+1+1:=by simp
 have H0:=Lh (((SAt.start 33 hs).alloc (.cells #[.int .i64 H.id,.int .i64 H.gn,.int .i64 H.rt,.int .i64 H.ht] 40)).alloc (.cells #[.bool false,.int .i64 0,.int .i64 0,.slice none 0 0,.int .i64 0,.int .i64 0,.slice none 0 0,.slice none 0 0] 33))
 have Q0:=Lh ((H4.start (w.alloc (.cells #[.bool S.lv,.int .i64 S.lo,.int .i64 S.hi,.slice D.A S.cs.length D.c,.int .i64 S.hd,.int .i64 S.sz,.slice D.A2 S.l.length D.c2,.slice D.A3 S.h.length D.c3] 33)) H 40).up ((Below.refl _ _).alloc (Nat.le_refl _) (.cells #[.bool false,.int .i64 0,.int .i64 0,.slice none 0 0,.int .i64 0,.int .i64 0,.slice none 0 0,.slice none 0 0] 33)))
 have R0:=Lh (SB8.zero ((w.alloc (.cells #[.bool S.lv,.int .i64 S.lo,.int .i64 S.hi,.slice D.A S.cs.length D.c,.int .i64 S.hd,.int .i64 S.sz,.slice D.A2 S.l.length D.c2,.slice D.A3 S.h.length D.c3] 33)).alloc (.cells #[.int .i64 H.id,.int .i64 H.gn,.int .i64 H.rt,.int .i64 H.ht] 40)) 33)
 rw [e1] at Q0
 rw [e2] at R0
 have HHE:=Lh (fun p W (k:SAt w p S D W)=>(show Calls Tryz.prog 50 #[sv S D,H.v,.int .i64 now,.int .i64 ep,.slice none 0 0] W (VlT W (heS S H now ep true)) from sherr_any S D H now ep none [] W k.sr Nl.nil (fun _=>rfl) (by simp)))
 obtain ⟨x,hx⟩:∃ x,x=heS S H now ep true:=⟨_,rfl⟩
 rw [←hx] at HHE hn
 rw [←hx]
 have HCL:=Lh (fun (h:x=0) p W (q:SAt w p S D W)=>sclone_any S D W q.sr (hn h).1 (hn h).2.1 (hn h).2.2.1 (hn h).2.2.2)
 have HRL:=Lh (fun p D W (q:SAt w p S D W)=>lrelease_any D.A2 S.l.length D.c2 S.l D.A3 S.h.length D.c3 S.h H.id W q.sr.el q.sr.dl)
 obtain ⟨T,hT⟩:∃ T,T=akF S H.id:=⟨_,rfl⟩
 obtain ⟨U,hU⟩:∃ U,U=if x=0 then akF S H.id else zS:=⟨_,rfl⟩
 have HUU:=Lh (show U=if x=0 then T else zS from by rw [hU,hT])
 have HTT:=Lh (show T=⟨S.lv,S.lo,S.hi,S.cs,S.hd,S.sz,rlL S.l S.h H.id,rlH S.l S.h H.id⟩ from hT)
 rw [←hU]
 clear hU hT hs hn hx
 generalize rlL S.l S.h H.id=gl at*
 generalize rlH S.l S.h H.id=gh at*
 generalize rlE S.l S.h H.id=rE at*
 generalize rlM S.l S.h H.id=M at*
 go_enter Tryz.func19,Tryz.ntmps19
 obtain ⟨t0,t1,t2,t3,t4,t5,t6,t7,tl⟩:=H0.out.s8.facts
 obtain ⟨q0,q1,q2,q3,ql⟩:=Q0.out
 go_wp2_with fail
 clear t0 t1 t2 t3 t4 t5 t6 t7 tl q0 q1 q2 q3 ql
 obtain ⟨p,hp⟩:∃ p,p=w.heap.size:=⟨_,rfl⟩
 obtain ⟨q,hq⟩:∃ q,q=w.heap.size+1:=⟨_,rfl⟩
 obtain ⟨r,hr⟩:∃ r,r=w.heap.size+1+1:=⟨_,rfl⟩
 have HPR:=Lh (show (¬p=r∧¬r=p∧¬p=q∧¬q=p)∧w.heap.size≤p∧p<q∧q<r by omega)
 rw [←hr,←hq,←hp]
 rw [←hr] at R0
 rw [←hq] at Q0
 rw [←hp] at H0
 clear e1 e2 hp hq hr
 generalize (((w.alloc (.cells #[.bool S.lv,.int .i64 S.lo,.int .i64 S.hi,.slice D.A S.cs.length D.c,.int .i64 S.hd,.int .i64 S.sz,.slice D.A2 S.l.length D.c2,.slice D.A3 S.h.length D.c3] 33)).alloc (.cells #[.int .i64 H.id,.int .i64 H.gn,.int .i64 H.rt,.int .i64 H.ht] 40)).alloc (.cells #[.bool false,.int .i64 0,.int .i64 0,.slice none 0 0,.int .i64 0,.int .i64 0,.slice none 0 0,.slice none 0 0] 33))=w1 at*
 refine (HHE.out _ _ H0.out).mono ?_
 rintro e w2 ⟨rfl,hb⟩
 have H1:=Lh (H0.out.below hb)
 have Q1:=Lh (Q0.out.up hb)
 have R1:=Lh (R0.out.up hb)
 clear hb HHE H0 Q0 R0
 by_cases hx:x=0
 ·have HX:=Lh hx
  subst hx
  obtain ⟨t0,t1,t2,t3,t4,t5,t6,t7,tl⟩:=H1.out.s8.facts
  go_wp2_with fail
  clear t0 t1 t2 t3 t4 t5 t6 t7 tl
  refine (HCL.out (by first | trivial | rfl) _ _ H1.out).mono ?_
  rintro e w3 ⟨D2,rfl,hn2,hr2,hb⟩
  have H2:=Lh (H1.out.below hb)
  have H3:=Lh (show SAt w p S D2 ((((((((w3.setCell ⟨p,0,none⟩ (.bool S.lv)).setCell ⟨p,1,none⟩ (.int .i64 S.lo)).setCell ⟨p,2,none⟩ (.int .i64 S.hi)).setCell ⟨p,3,none⟩ (.slice D2.A S.cs.length D2.c)).setCell ⟨p,4,none⟩ (.int .i64 S.hd)).setCell ⟨p,5,none⟩ (.int .i64 S.sz)).setCell ⟨p,6,none⟩ (.slice D2.A2 S.l.length D2.c2)).setCell ⟨p,7,none⟩ (.slice D2.A3 S.h.length D2.c3)) from H2.out.put hr2 (hn2.off H1.out.lt))
  have Q2:=Lh (Q1.out.up hb)
  have R3:=Lh (show SB8 ((((((((w3.setCell ⟨p,0,none⟩ (.bool S.lv)).setCell ⟨p,1,none⟩ (.int .i64 S.lo)).setCell ⟨p,2,none⟩ (.int .i64 S.hi)).setCell ⟨p,3,none⟩ (.slice D2.A S.cs.length D2.c)).setCell ⟨p,4,none⟩ (.int .i64 S.hd)).setCell ⟨p,5,none⟩ (.int .i64 S.sz)).setCell ⟨p,6,none⟩ (.slice D2.A2 S.l.length D2.c2)).setCell ⟨p,7,none⟩ (.slice D2.A3 S.h.length D2.c3)) r zS zX from (R1.out.up hb).put_far HPR.out.1.2.1 S D2)
  have N2:=Lh (show D2.nw (r+1) from hn2.low R1.out.lt)
  clear hn2 hr2 hb
  obtain ⟨⟨t0,t1,t2,t3,t4,t5,t6,t7,tl⟩,⟨f0,f1,f2,f3,f4,f5,f6,f7⟩⟩:=H2.out.s8.all
  obtain ⟨q0,q1,q2,q3,ql⟩:=Q2.out
  obtain ⟨⟨hpr,hrp,hpq,hqp⟩,-,-,-⟩:=HPR.out
  go_wp2_with fail
  clear t0 t1 t2 t3 t4 t5 t6 t7 tl f0 f1 f2 f3 f4 f5 f6 f7 q0 q1 q2 q3 ql hpr hrp hpq hqp H2 Q2 H1 Q1 R1
  generalize ((((((((w3.setCell ⟨p,0,none⟩ (.bool S.lv)).setCell ⟨p,1,none⟩ (.int .i64 S.lo)).setCell ⟨p,2,none⟩ (.int .i64 S.hi)).setCell ⟨p,3,none⟩ (.slice D2.A S.cs.length D2.c)).setCell ⟨p,4,none⟩ (.int .i64 S.hd)).setCell ⟨p,5,none⟩ (.int .i64 S.sz)).setCell ⟨p,6,none⟩ (.slice D2.A2 S.l.length D2.c2)).setCell ⟨p,7,none⟩ (.slice D2.A3 S.h.length D2.c3))=w3' at*
  refine (HRL.out _ _ _ H3.out).mono ?_
  rintro e w4 ⟨A3,c3,A4,c4,rfl,n3,n4,h3,h4,hb⟩
  have H4:=Lh (H3.out.below hb)
  have R4:=Lh (R3.out.up hb)
  have H5:=Lh (show SAt w p ⟨S.lv,S.lo,S.hi,S.cs,S.hd,S.sz,gl,gh⟩ ⟨D2.A,D2.c,A3,c3,A4,c4⟩ (((w4.setCell ⟨p,6,none⟩ (.slice A3 gl.length c3)).setCell ⟨p,7,none⟩ (.slice A4 gh.length c4))) from H4.out.setTab h3 h4 (offb_nw n3 H3.out.lt) (offb_nw n4 H3.out.lt))
  have N5:=Lh (show Nw (r+1) A3∧Nw (r+1) A4 from ⟨nw_low n3 R3.out.lt,nw_low n4 R3.out.lt⟩)
  clear n3 n4 h3 h4 hb
  have HF:=Lh (show SE w U 0 (.returned (.tuple #[.agg #[.bool S.lv,.int .i64 S.lo,.int .i64 S.hi,.slice D2.A S.cs.length D2.c,.int .i64 S.hd,.int .i64 S.sz,.slice A3 gl.length c3,.slice A4 gh.length c4],.int .i64 0])) (((((((((((w4.setCell ⟨p,6,none⟩ (.slice A3 gl.length c3)).setCell ⟨p,7,none⟩ (.slice A4 gh.length c4))).setCell ⟨r,0,none⟩ (.bool S.lv)).setCell ⟨r,1,none⟩ (.int .i64 S.lo)).setCell ⟨r,2,none⟩ (.int .i64 S.hi)).setCell ⟨r,3,none⟩ (.slice D2.A S.cs.length D2.c)).setCell ⟨r,4,none⟩ (.int .i64 S.hd)).setCell ⟨r,5,none⟩ (.int .i64 S.sz)).setCell ⟨r,6,none⟩ (.slice A3 gl.length c3)).setCell ⟨r,7,none⟩ (.slice A4 gh.length c4)) from by
   rw [HUU.out,if_pos trivial,HTT.out]
   have hne:=HPR.out.2
   exact ⟨⟨D2.A,D2.c,A3,c3,A4,c4⟩,rfl,⟨(N2.out.low (show w.heap.size≤r+1 by omega)).1,nw_low N5.out.1 (by omega),nw_low N5.out.2 (by omega)⟩,SR.sets (S:=⟨S.lv,S.lo,S.hi,S.cs,S.hd,S.sz,gl,gh⟩) (D:=⟨D2.A,D2.c,A3,c3,A4,c4⟩) ⟨(N2.out.off (Nat.lt_succ_self r)).o1,offb_nw N5.out.1 (Nat.lt_succ_self r),offb_nw N5.out.2 (Nat.lt_succ_self r)⟩ (Sh.l8 ⟨S.lv,S.lo,S.hi,S.cs,S.hd,S.sz,gl,gh⟩ ⟨D2.A,D2.c,A3,c3,A4,c4⟩) 0 _ H5.out.sr,set8s_below (show w.heap.size≤r by omega) H5.out.bel ⟨S.lv,S.lo,S.hi,S.cs,S.hd,S.sz,gl,gh⟩ ⟨D2.A,D2.c,A3,c3,A4,c4⟩⟩)
  obtain ⟨⟨t0,t1,t2,t3,t4,t5,t6,t7,tl⟩,⟨f0,f1,f2,f3,f4,f5,f6,f7⟩⟩:=H4.out.s8.all
  obtain ⟨⟨r0,r1,r2,r3,r4,r5,r6,r7,rl⟩,⟨g0,g1,g2,g3,g4,g5,g6,g7⟩⟩:=R4.out.all
  obtain ⟨⟨hpr,hrp,hpq,hqp⟩,-,-,-⟩:=HPR.out
  go_wp2
  exact bodyPost_ret (v:=.tuple #[.agg #[.bool S.lv,.int .i64 S.lo,.int .i64 S.hi,.slice D2.A S.cs.length D2.c,.int .i64 S.hd,.int .i64 S.sz,.slice A3 gl.length c3,.slice A4 gh.length c4],.int .i64 0]) (by simp only [results,Tryz.results19];go_simp <;> rfl) rfl HF.out
 ·have hne:(x != 0)=true:=bne_iff_ne.2 hx
  have HF:=Lh (show SE w U x (.returned (.tuple #[.agg #[.bool false,.int .i64 0,.int .i64 0,.slice none 0 0,.int .i64 0,.int .i64 0,.slice none 0 0,.slice none 0 0],.int .i64 x])) (z8 w2 r) from by
   rw [HUU.out,if_neg hx]
   have hne:=HPR.out.2
   exact se_zero (by omega) H1.out.bel)
  clear hx
  obtain ⟨⟨r0,r1,r2,r3,r4,r5,r6,r7,rl⟩,⟨g0,g1,g2,g3,g4,g5,g6,g7⟩⟩:=R1.out.all
  go_wp2
  exact bodyPost_ret (v:=.tuple #[.agg #[.bool false,.int .i64 0,.int .i64 0,.slice none 0 0,.int .i64 0,.int .i64 0,.slice none 0 0,.slice none 0 0],.int .i64 x]) (by simp only [results,Tryz.results19];go_simp <;> rfl) rfl HF.out
theorem nl_one (w:World) (a:Rn) (t:TypeId):Nl (w.alloc (.cells #[.int .i64 a.n,.int .i64 a.lo,.int .i64 a.hi] t)) (w.heap.size+1) (.slice (some ⟨w.heap.size,0,none⟩) 1 1) [a]:=by
 refine ⟨_,1,rfl,Nat.le_refl _,by unfold maxLen;omega,by simp [rcs,Rn.l],fun _=>⟨w.heap.size,0,rfl,Nat.lt_succ_self _,fun j u hu=>?_⟩⟩
 rw [Nat.zero_add,World.cell?_alloc_new]
 simpa [rcs,Rn.l] using hu
/-- What region 1 of Nack reads. -/
abbrev NkK (p q b:Nat) (S:Sh) (D:Sx) (H:Hn) (lim:Int) (W:World):Prop:=K8 p S D W∧W.cell? ⟨q,0,none⟩=some (.int .i64 H.id)∧W.cell? ⟨q,1,none⟩=some (.int .i64 H.gn)∧W.cell? ⟨q,2,none⟩=some (.int .i64 H.rt)∧W.cell? ⟨q,3,none⟩=some (.int .i64 H.ht)∧W.cell? ⟨b,0,none⟩=some (.int .i64 lim)
theorem NkK.mk {p q b:Nat} {S:Sh} {D:Sx} {H:Hn} {lim:Int} {W:World} (h:K8 p S D W) (k:H4 W q H) (c:W.cell? ⟨b,0,none⟩=some (.int .i64 lim)):NkK p q b S D H lim W:=⟨h,k.1,k.2.1,k.2.2.1,k.2.2.2.1,c⟩
set_option maxHeartbeats 8000000 in
set_option maxRecDepth 20000 in
theorem snack_any (S:Sh) (D:Sx) (H:Hn) (now ep lim:Int) (w:World) (hs:SR w w.heap.size S D) :
  Calls Tryz.prog 16 #[sv S D,H.v,.int .i64 now,.int .i64 ep,.int .i64 lim] w (SE w (if heS S H now ep (wi lim 1 8)=0 then gbN S H.id lim else zS) (heS S H now ep (wi lim 1 8))):=by
 have e1:(w.alloc (.cells #[.bool S.lv,.int .i64 S.lo,.int .i64 S.hi,.slice D.A S.cs.length D.c,.int .i64 S.hd,.int .i64 S.sz,.slice D.A2 S.l.length D.c2,.slice D.A3 S.h.length D.c3] 33)).heap.size=w.heap.size+1:=by simp
 have e2:((w.alloc (.cells #[.bool S.lv,.int .i64 S.lo,.int .i64 S.hi,.slice D.A S.cs.length D.c,.int .i64 S.hd,.int .i64 S.sz,.slice D.A2 S.l.length D.c2,.slice D.A3 S.h.length D.c3] 33)).alloc (.cells #[.int .i64 H.id,.int .i64 H.gn,.int .i64 H.rt,.int .i64 H.ht] 40)).heap.size=w.heap.size+1+1:=by simp
 have e3:(((w.alloc (.cells #[.bool S.lv,.int .i64 S.lo,.int .i64 S.hi,.slice D.A S.cs.length D.c,.int .i64 S.hd,.int .i64 S.sz,.slice D.A2 S.l.length D.c2,.slice D.A3 S.h.length D.c3] 33)).alloc (.cells #[.int .i64 H.id,.int .i64 H.gn,.int .i64 H.rt,.int .i64 H.ht] 40)).alloc (.cells #[.int .i64 lim] 3)).heap.size=w.heap.size+1+1+1:=by simp
 have H0:=Lh ((((SAt.start 33 hs).alloc (.cells #[.int .i64 H.id,.int .i64 H.gn,.int .i64 H.rt,.int .i64 H.ht] 40)).alloc (.cells #[.int .i64 lim] 3)).alloc (.cells #[.bool false,.int .i64 0,.int .i64 0,.slice none 0 0,.int .i64 0,.int .i64 0,.slice none 0 0,.slice none 0 0] 33))
 have Q0:=Lh (((H4.start (w.alloc (.cells #[.bool S.lv,.int .i64 S.lo,.int .i64 S.hi,.slice D.A S.cs.length D.c,.int .i64 S.hd,.int .i64 S.sz,.slice D.A2 S.l.length D.c2,.slice D.A3 S.h.length D.c3] 33)) H 40).up ((Below.refl _ _).alloc (Nat.le_refl _) (.cells #[.int .i64 lim] 3))).up ((Below.refl _ _).alloc (Nat.le_refl _) (.cells #[.bool false,.int .i64 0,.int .i64 0,.slice none 0 0,.int .i64 0,.int .i64 0,.slice none 0 0,.slice none 0 0] 33)))
 have R0:=Lh (SB8.zero (((w.alloc (.cells #[.bool S.lv,.int .i64 S.lo,.int .i64 S.hi,.slice D.A S.cs.length D.c,.int .i64 S.hd,.int .i64 S.sz,.slice D.A2 S.l.length D.c2,.slice D.A3 S.h.length D.c3] 33)).alloc (.cells #[.int .i64 H.id,.int .i64 H.gn,.int .i64 H.rt,.int .i64 H.ht] 40)).alloc (.cells #[.int .i64 lim] 3)) 33)
 have L0:Hid (((((w.alloc (.cells #[.bool S.lv,.int .i64 S.lo,.int .i64 S.hi,.slice D.A S.cs.length D.c,.int .i64 S.hd,.int .i64 S.sz,.slice D.A2 S.l.length D.c2,.slice D.A3 S.h.length D.c3] 33)).alloc (.cells #[.int .i64 H.id,.int .i64 H.gn,.int .i64 H.rt,.int .i64 H.ht] 40)).alloc (.cells #[.int .i64 lim] 3)).alloc (.cells #[.bool false,.int .i64 0,.int .i64 0,.slice none 0 0,.int .i64 0,.int .i64 0,.slice none 0 0,.slice none 0 0] 33)).cell? ⟨w.heap.size+1+1,0,none⟩=some (.int .i64 lim)):=Lh (by simp [go_sem])
 rw [e1] at Q0
 rw [e3] at R0
 have HHE:=Lh (fun A p W (k:SAt w p S D W) (hn:Nl W W.heap.size (.slice (some A) 1 1) [⟨lim,1,8⟩])=>(show Calls Tryz.prog 50 #[sv S D,H.v,.int .i64 now,.int .i64 ep,.slice (some A) 1 1] W (VlT W (heS S H now ep (wi lim 1 8))) from by
  have h:=sherr_any S D H now ep (some A) [⟨lim,1,8⟩] W k.sr hn (fun h=>by cases h) (by simp)
  have he:([⟨lim,1,8⟩]:List Rn).all Rn.ok=wi lim 1 8:=by simp [Rn.ok]
  rw [he] at h
  exact h))
 obtain ⟨x,hx⟩:∃ x,x=heS S H now ep (wi lim 1 8):=⟨_,rfl⟩
 rw [←hx] at HHE
 rw [←hx]
 have HL:=Lh (fun W=>alimit_any lim W)
 have HGB:=Lh (fun p b W (q:SAt w p S D W) (hc:W.cell? ⟨b,0,none⟩=some (.int .i64 lim)) (hb:b<W.heap.size)=>givenack_any S D H.id b lim W q.sr hc hb)
 obtain ⟨T,hT⟩:∃ T,T=gbN S H.id lim:=⟨_,rfl⟩
 obtain ⟨U,hU⟩:∃ U,U=if x=0 then gbN S H.id lim else zS:=⟨_,rfl⟩
 have HUU:=Lh (show U=if x=0 then T else zS from by rw [hU,hT])
 rw [←hU]
 rw [←hT] at HGB
 clear hU hT hs hx
 go_enter Tryz.func16,Tryz.ntmps16
 obtain ⟨p,hp⟩:∃ p,p=w.heap.size:=⟨_,rfl⟩
 obtain ⟨q,hq⟩:∃ q,q=w.heap.size+1:=⟨_,rfl⟩
 obtain ⟨b,hb0⟩:∃ b,b=w.heap.size+1+1:=⟨_,rfl⟩
 obtain ⟨r,hr⟩:∃ r,r=w.heap.size+1+1+1:=⟨_,rfl⟩
 have HPR:=Lh (show w.heap.size≤p∧p<q∧q<b∧b<r by omega)
 rw [←hr] at R0
 rw [←hb0] at L0
 rw [←hq] at Q0
 rw [←hp] at H0
 clear e1 e2 e3
 go_upto_region 1 with (fail)
 rw [←hr,←hb0,←hq,←hp]
 clear hp hq hb0 hr
 generalize ((((w.alloc (.cells #[.bool S.lv,.int .i64 S.lo,.int .i64 S.hi,.slice D.A S.cs.length D.c,.int .i64 S.hd,.int .i64 S.sz,.slice D.A2 S.l.length D.c2,.slice D.A3 S.h.length D.c3] 33)).alloc (.cells #[.int .i64 H.id,.int .i64 H.gn,.int .i64 H.rt,.int .i64 H.ht] 40)).alloc (.cells #[.int .i64 lim] 3)).alloc (.cells #[.bool false,.int .i64 0,.int .i64 0,.slice none 0 0,.int .i64 0,.int .i64 0,.slice none 0 0,.slice none 0 0] 33))=w1 at*
 have HLT:=Lh (show b<w1.heap.size from Nat.lt_trans HPR.out.2.2.2 R0.out.lt)
 have HD:=Lh H0.out.drew
 have Q1:=Lh (Q0.out.up ((Below.refl _ _).drew))
 have R1:=Lh (R0.out.up ((Below.refl _ _).drew))
 have L1:=Lh (show w1.drew.cell? ⟨b,0,none⟩=some (.int .i64 lim) from L0.out)
 have HT0:=Lh (show NkK p q b S D H lim w1.drew from NkK.mk HD.out.k8 Q1.out L1.out)
 go_region_held3 (fun W=>NkK p q b S D H lim W)
  (first | with_reducible exact HT0.out | with_reducible exact HT1.out | with_reducible exact HT2.out | with_reducible exact HT3.out | with_reducible exact HT4.out | with_reducible exact HT5.out)
  (first
  | (go_at_call 44;(with_reducible refine (HL.out _).mono ?_);rintro e w3 ⟨rfl,hb⟩;have HB2:=Lh hb;have HA2:=Lh ((HD.out.below hb).alloc (.cells #[.int .i64 lim,.int .i64 1,.int .i64 8] 82));have HB3:=Lh (hb.trans ((((Below.refl w3.heap.size w3).alloc (Nat.le_refl _) (.cells #[.int .i64 lim,.int .i64 1,.int .i64 8] 82))).mono hb.size));have Q2:=Lh (Q1.out.up HB3.out);have R2:=Lh (R1.out.up HB3.out);have L2:=Lh ((HB3.out.cell (p:=⟨b,0,none⟩) HLT.out).trans L1.out);have HT1:=Lh (show NkK p q b S D H lim w3 from NkK.mk (HD.out.below hb).k8 (Q1.out.up hb) ((hb.cell (p:=⟨b,0,none⟩) HLT.out).trans L1.out));have HT2:=Lh (show NkK p q b S D H lim (w3.alloc (.cells #[.int .i64 lim,.int .i64 1,.int .i64 8] 82)) from NkK.mk HA2.out.k8 Q2.out L2.out);have HNL:=Lh (nl_one w3 ⟨lim,1,8⟩ 82);clear hb)
  | (go_at_call 50;(with_reducible refine (HHE.out _ _ _ HA2.out ?_).mono ?_);(have:=HNL.out;simpa using this);rintro e w5 ⟨rfl,hb⟩;have HA5:=Lh (HA2.out.below hb);have Q5:=Lh (Q2.out.up hb);have R5:=Lh (R2.out.up hb);have HB5:=Lh (HB3.out.trans (hb.mono HB3.out.size));have L5:=Lh ((HB5.out.cell (p:=⟨b,0,none⟩) HLT.out).trans L1.out);have HT3:=Lh (show NkK p q b S D H lim w5 from NkK.mk HA5.out.k8 Q5.out L5.out);clear hb))
 have HL5:=Lh (show b<w5.heap.size from Nat.lt_trans HPR.out.2.2.2 R5.out.lt)
 clear HD HT0 HT1 HT2 HT3 HA2 HNL HL HHE H0 R0 R1 R2 Q0 Q1 Q2 HB2 HB3 HB5 L0 L1 L2 HLT
 by_cases hx:x=0
 ·have HX:=Lh hx
  subst hx
  obtain ⟨t0,t1,t2,t3,t4,t5,t6,t7,tl⟩:=HA5.out.s8.facts
  obtain ⟨q0,q1,q2,q3,ql⟩:=Q5.out
  go_wp2_with fail
  clear t0 t1 t2 t3 t4 t5 t6 t7 tl q0 q1 q2 q3 ql
  refine (HGB.out _ _ _ HA5.out L5.out HL5.out).mono ?_
  rintro e w6 ⟨D2,rfl,hn2,hr2,hb⟩
  have R6:=Lh (R5.out.up hb)
  have HF:=Lh (show SE w U 0 (.returned (.tuple #[.agg #[.bool T.lv,.int .i64 T.lo,.int .i64 T.hi,.slice D2.A T.cs.length D2.c,.int .i64 T.hd,.int .i64 T.sz,.slice D2.A2 T.l.length D2.c2,.slice D2.A3 T.h.length D2.c3],.int .i64 0])) ((((((((w6.setCell ⟨r,0,none⟩ (.bool T.lv)).setCell ⟨r,1,none⟩ (.int .i64 T.lo)).setCell ⟨r,2,none⟩ (.int .i64 T.hi)).setCell ⟨r,3,none⟩ (.slice D2.A T.cs.length D2.c)).setCell ⟨r,4,none⟩ (.int .i64 T.hd)).setCell ⟨r,5,none⟩ (.int .i64 T.sz)).setCell ⟨r,6,none⟩ (.slice D2.A2 T.l.length D2.c2)).setCell ⟨r,7,none⟩ (.slice D2.A3 T.h.length D2.c3)) from by
   rw [HUU.out,if_pos trivial]
   have hne:=HPR.out
   have hbel:=HA5.out.bel
   have hlt:=R5.out.lt
   exact ⟨D2,rfl,hn2.low hbel.size,SR.sets (hn2.off hlt) (T.l8 D2) 0 _ hr2,set8s_below (show w.heap.size≤r by omega) (hbel.trans (hb.mono hbel.size)) T D2⟩)
  clear hn2 hr2 hb
  obtain ⟨⟨r0,r1,r2,r3,r4,r5,r6,r7,rl⟩,⟨g0,g1,g2,g3,g4,g5,g6,g7⟩⟩:=R6.out.all
  go_wp2
  exact bodyPost_ret (v:=.tuple #[.agg #[.bool T.lv,.int .i64 T.lo,.int .i64 T.hi,.slice D2.A T.cs.length D2.c,.int .i64 T.hd,.int .i64 T.sz,.slice D2.A2 T.l.length D2.c2,.slice D2.A3 T.h.length D2.c3],.int .i64 0]) (by simp only [results,Tryz.results16];go_simp <;> rfl) rfl HF.out
 ·have hne:(x != 0)=true:=bne_iff_ne.2 hx
  have HF:=Lh (show SE w U x (.returned (.tuple #[.agg #[.bool false,.int .i64 0,.int .i64 0,.slice none 0 0,.int .i64 0,.int .i64 0,.slice none 0 0,.slice none 0 0],.int .i64 x])) (z8 w5 r) from by
   rw [HUU.out,if_neg hx]
   have hne:=HPR.out
   exact se_zero (by omega) HA5.out.bel)
  clear hx
  obtain ⟨⟨r0,r1,r2,r3,r4,r5,r6,r7,rl⟩,⟨g0,g1,g2,g3,g4,g5,g6,g7⟩⟩:=R5.out.all
  go_wp2
  exact bodyPost_ret (v:=.tuple #[.agg #[.bool false,.int .i64 0,.int .i64 0,.slice none 0 0,.int .i64 0,.int .i64 0,.slice none 0 0,.slice none 0 0],.int .i64 x]) (by simp only [results,Tryz.results16];go_simp <;> rfl) rfl HF.out
end Go.Proofs.YtncgbldcjfbknaaGreat
/- Plain: what Take's leases are: Holds, Ack and Nack of them. -/
namespace Go.Proofs.YtncgbldcjfbknaaGreat
open Go.RowKit
set_option linter.unusedVariables false
theorem vf_parts {M:Msg} (h:vf M=0):(1≤M.id∧M.id≤1073741824)∧(0≤M.rt∧M.rt≤65535)∧(0≤M.ep∧M.ep≤65536)∧(0≤M.ct∧M.ct≤8)∧(M.ct≤M.gn∧M.gn≤65536)∧(0≤M.st∧M.st≤1073741824)∧¬(16:Int)<(M.bd.size:Int):=by
 unfold vf at h
 cases hh:hv M with
 | false=>rw [hh,if_neg (by decide)] at h;exact absurd h (by decide)
 | true=>
  rw [if_pos hh] at h
  unfold hv at hh
  simp only [Bool.and_eq_true] at hh
  refine ⟨wi_of hh.1,wi_of hh.2.1,wi_of hh.2.2.1,wi_of hh.2.2.2.1,wi_of hh.2.2.2.2.1,wi_of hh.2.2.2.2.2,fun g=>?_⟩
  rw [if_pos g] at h;exact absurd h (by decide)
theorem vf_mk {M:Msg} (h1:1≤M.id∧M.id≤1073741824) (h2:0≤M.rt∧M.rt≤65535) (h3:0≤M.ep∧M.ep≤65536) (h4:0≤M.ct∧M.ct≤8) (h5:M.ct≤M.gn∧M.gn≤65536) (h6:0≤M.st∧M.st≤1073741824) (h7:¬(16:Int)<(M.bd.size:Int)):vf M=0:=by
 have e:hv M=true:=by
  unfold hv
  rw [wi_true h1.1 h1.2,wi_true h2.1 h2.2,wi_true h3.1 h3.2,wi_true h4.1 h4.2,wi_true h5.1 h5.2,wi_true h6.1 h6.2];rfl
 unfold vf
 rw [if_pos e,if_neg h7]
theorem dl_facts {M:Msg} {ep lim:Int} (hM:vf M=0) (h:rvF M ep lim=true) (hl:lim≤8):vf (dlM M)=0∧(dlM M).id=M.id∧(dlM M).rt=M.rt∧(dlM M).ep=M.ep∧1≤(dlM M).gn:=by
 rw [dl_rv hM h hl]
 obtain ⟨p1,p2,p3,p4,p5,p6,p7⟩:=vf_parts hM
 obtain ⟨q1,q2,q3⟩:=rvF_iff.1 h
 exact ⟨vf_mk p1 p2 p3 (by show 0≤M.ct+1∧M.ct+1≤8;omega) (by show M.ct+1≤M.gn+1∧M.gn+1≤65536;omega) p6 p7,rfl,rfl,rfl,by show 1≤M.gn+1;omega⟩
section
variable {V:Vs} {X:Le} {H:Hn} {now ep lim vis dl id:Int} {mx:Nat}
theorem take_facts (k:V.Ok) (hl:lim≤8) (d0:0≤dl) (d1:dl≤1073741824) :
  (V.take mx (fun M=>rvF M ep lim) dl).Ok∧∀ M∈(pk mx (fun M=>rvF M ep lim) V.L).1,(⟨dlM M,dl⟩:Le)∈(V.take mx (fun M=>rvF M ep lim) dl).l:=by
 obtain ⟨s1,s2,s3⟩:=pk_sub mx (fun M=>rvF M ep lim) V.L
 have pp:=pk_permL mx (fun M=>rvF M ep lim) V.L
 unfold Vs.take
 generalize (pk mx (fun M=>rvF M ep lim) V.L).1=T at*
 generalize (pk mx (fun M=>rvF M ep lim) V.L).2=R at*
 have hd:∀ M∈T,vf (dlM M)=0∧(dlM M).id=M.id∧(dlM M).rt=M.rt∧(dlM M).ep=M.ep∧1≤(dlM M).gn:=fun M hM=>dl_facts (k.gL.1 M (s2.subset hM)) (s3 M hM) hl
 have k1:=ring_ok k s1
 have hp:V.al.Perm (T++(V.ring R).al):=by
  show (V.L++V.l.map Le.m).Perm (T++(R++V.l.map Le.m))
  rw [←List.append_assoc]
  exact pp.symm.append_right _
 have g:=gd_perm hp k.gd
 have hg:Gd (T.map dlM++(V.ring R).al):=by
  refine ⟨fun M hM=>?_,(dup_pair _).2 ?_⟩
  ·rcases List.mem_append.1 hM with h | h
   ·obtain ⟨N,hN,rfl⟩:=List.mem_map.1 h
    exact (hd N hN).1
   ·exact g.1 M (List.mem_append_right _ h)
  ·have p:=(dup_pair _).1 g.2
   rw [List.pairwise_append] at p ⊢
   refine ⟨List.pairwise_map.2 (p.1.imp_of_mem fun {a b} ha hb hab=>by rw [(hd a ha).2.1,(hd b hb).2.1];exact hab),p.2.1,fun a ha b hb=>?_⟩
   obtain ⟨N,hN,rfl⟩:=List.mem_map.1 ha
   rw [(hd N hN).2.1]
   exact p.2.2 N hN b hb
 have hlen:=pp.length_eq
 rw [List.length_append] at hlen
 obtain ⟨o1,-,o3⟩:=grs_ok (dl:=dl) T (V.ring R) k1 hg (fun M hM=>by rw [(hd M hM).2.2.1];exact k.own M (List.mem_append_left _ (s2.subset hM))) (by show R.length+V.l.length+T.length≤V.n;have:=k.room;omega) (fun M hM=>⟨(hd M hM).1,by have:=(hd M hM).2.2.2.2;show (dlM M).gn≠0;omega,d0,d1⟩)
 exact ⟨o1,fun M hM=>(o3 _).2 (.inr ⟨M,hM,rfl⟩)⟩
theorem ho_no {S:Sh} (h:fnO S.l S.h H.id=false):hoF S H now ep=false:=by unfold hoF;rw [h];simp
theorem ho_at (k:V.Ok) (hX:X∈V.l) (hid:H.id=X.m.id) (n0:0≤now) (n1:now≤1073741824) (e0:0≤ep) (e1:ep≤65536):hoF V.sh H now ep=hxF X H now ep:=by
 obtain ⟨j,hj,rfl⟩:=List.mem_iff_getElem.1 hX
 obtain ⟨f1,f2⟩:=k.tb.fn hj
 have f1' : fnO V.sh.l V.sh.h H.id=true:=by rw [hid];exact f1
 have f2' : fnX V.sh.l V.sh.h H.id=V.l[j]:=by rw [hid];exact f2
 unfold hoF
 rw [wi_true n0 n1,wi_true e0 e1,show (true&&true)=true from rfl,k.ex true,f1',f2']
 simp
theorem fn_off (k:V.Ok) (hn:∀ x∈V.l,x.m.id≠id):fnO V.l V.h id=false:=by
 unfold fnO
 rw [kFi_none (key:=Le.id) (l:=V.l) (x:=id) hn]
 simp
theorem st_ok (k:V.Ok):stF V.sh=V.L.length+V.l.length:=by
 unfold stF
 rw [k.ex true,if_pos rfl,if_pos rfl]
 rfl
theorem he_ok (k:V.Ok) {b:Bool} (hb:b=true) (n0:0≤now) (n1:now≤1073741824) (e0:0≤ep) (e1:ep≤65536) (h:hoF V.sh H now ep=true):heS V.sh H now ep b=0:=by
 unfold heS
 rw [hb,wi_true n0 n1,wi_true e0 e1,show (true&&(true&&true))=true from rfl,k.ex true,if_pos rfl,if_neg (by decide),if_pos h]
/-- What the law asks of a lease. -/
structure LvOk (S S' : Sh) (X:Le) (now vis ep lim:Int):Prop where
 dl:X.dl=now+vis
 a1:hoF S' ⟨X.m.id,X.m.gn,X.m.rt,0⟩ (now+vis) ep=false
 a2:0<vis→hoF S' ⟨X.m.id,X.m.gn,X.m.rt,0⟩ (now+vis - 1) ep=true
 a3:hoF S' ⟨X.m.id,X.m.gn - 1,X.m.rt,0⟩ now ep=false
 a4:hoF S' ⟨X.m.id,X.m.gn,(X.m.rt+1) % 65536,0⟩ now ep=false
 a5:hoF S ⟨X.m.id,X.m.gn,X.m.rt,0⟩ now ep=false
 b1:0<vis→heS S' ⟨X.m.id,X.m.gn,X.m.rt,0⟩ now ep true=0
 b2:0<vis→heS S' ⟨X.m.id,X.m.gn,X.m.rt,0⟩ now ep (wi lim 1 8)=0
 b3:hoF (akF S' X.m.id) ⟨X.m.id,X.m.gn,X.m.rt,0⟩ now ep=false
 b4:hoF (gbN S' X.m.id lim) ⟨X.m.id,X.m.gn,X.m.rt,0⟩ now ep=false
 b5:stF (akF S' X.m.id)=stF S' - 1
 b6:stF (gbN S' X.m.id lim)=stF S'
 c1:1≤X.m.gn∧X.m.gn≤65536
 c2:0≤X.m.rt∧X.m.rt≤65535
 c3:1≤stF S'∧stF S'≤24
theorem lv_ok (k:V.Ok) (hB:tkB mx now vis ep lim=true) (hdl:now+vis≤1073741824) {M:Msg} (hM:M∈(pk mx (fun M=>rvF M ep lim) V.L).1) :
  LvOk V.sh (V.take mx (fun M=>rvF M ep lim) (now+vis)).sh ⟨dlM M,now+vis⟩ now vis ep lim:=by
 unfold tkB at hB
 simp only [Bool.and_eq_true] at hB
 have n:=wi_of hB.1
 have v:=wi_of hB.2.1
 have e:=wi_of hB.2.2.1
 have li:=wi_of hB.2.2.2.1
 have hw:=hB.2.2.2.1
 clear hB
 obtain ⟨s1,s2,s3⟩:=pk_sub mx (fun M=>rvF M ep lim) V.L
 have hML:=s2.subset hM
 have hd:=dl_facts (k.gL.1 M hML) (s3 M hM) li.2
 obtain ⟨r1,-,-⟩:=rvF_iff.1 (s3 M hM)
 obtain ⟨k2,h2⟩:=take_facts (mx:=mx) (ep:=ep) (dl:=now+vis) k li.2 (by omega) hdl
 have hX:=h2 M hM
 have hnew:∀ x∈V.l,x.m.id≠(dlM M).id:=fun x hx=>by
  have p:=(dup_pair _).1 k.gd.2
  rw [show V.al=V.L++V.l.map Le.m from rfl,List.pairwise_append] at p
  have:=p.2.2 M hML x.m (List.mem_map.2 ⟨x,hx,rfl⟩)
  rw [hd.2.1]
  exact fun e=>this e.symm
 clear h2 s1 s2 s3 hM hML
 generalize V.take mx (fun M=>rvF M ep lim) (now+vis)=U at*
 obtain ⟨D,hD⟩:∃ D,D=dlM M:=⟨_,rfl⟩
 rw [←hD] at hd hX hnew ⊢
 rw [←hd.2.2.2.1] at r1
 clear hD
 obtain ⟨p1,p2,p3,p4,p5,p6,p7⟩:=vf_parts hd.1
 have g1:=hd.2.2.2.2
 have hpu:puF D ep=false:=by unfold puF;exact decide_eq_false (by omega)
 have at_:∀ (H:Hn) (t:Int),H.id=D.id→0≤t→t≤1073741824→hoF U.sh H t ep=hxF ⟨D,now+vis⟩ H t ep:=fun H t h1 h2 h3=>ho_at k2 hX h1 h2 h3 e.1 e.2
 have hold:0<vis→hoF U.sh ⟨D.id,D.gn,D.rt,0⟩ now ep=true:=fun hv=>by
  rw [at_ _ _ rfl (by omega) (by omega)]
  simp [hxF,hpu];omega
 have er:rlE U.l U.h D.id=0:=by
  unfold rlE
  rw [if_neg (by simpa using (tbV_iff U.l U.h).2 k2.tb),if_neg (show ¬kFi Le.id U.l D.id<0 from fun h=>kFi_no h _ hX rfl)]
 obtain ⟨k3,pm,hi,hlen,-⟩:=k2.rel er
 have hf:=k2.back er
 have hoff:fnO (U.rel D.id).l (U.rel D.id).h D.id=false:=fn_off k3 fun x hx=>by
  have:=hf.new x.m (List.mem_append_right _ (List.mem_map.2 ⟨x,hx,rfl⟩))
  rw [hi] at this
  exact this
 have hst:=st_ok k2
 have hroom:=k2.room
 have hn2:=k2.n2
 refine ⟨rfl,?_,fun hv=>?_,?_,?_,?_,fun hv=>he_ok k2 rfl (by omega) (by omega) e.1 e.2 (hold hv),fun hv=>he_ok k2 hw (by omega) (by omega) e.1 e.2 (hold hv),ho_no hoff,ho_no hoff,?_,?_,⟨g1,p5.2⟩,p2,?_⟩
 ·rw [at_ _ _ rfl (by omega) (by omega)];simp [hxF]
 ·rw [at_ _ _ rfl (by omega) (by omega)];simp [hxF,hpu];omega
 ·rw [at_ _ _ rfl (by omega) (by omega)];simp [hxF];omega
 ·rw [at_ _ _ rfl (by omega) (by omega)]
  have:¬D.rt=(D.rt+1) % 65536:=by omega
  simp [hxF,this]
 ·exact ho_no (fn_off k hnew)
 ·rw [show akF U.sh D.id=(U.rel D.id).sh from rfl,st_ok k3,hst]
  show ((U.L.length:Nat):Int)+((U.rel D.id).l.length:Nat)=_
  omega
 ·obtain ⟨e1,k4⟩:=gbN_sh (lim:=lim) k2 er
  rw [e1,st_ok k4,hst]
  by_cases hs:spF (rlM U.l U.h D.id) lim=true
  ·rw [if_pos hs]
   show (((U.L++[_]).length:Nat):Int)+((U.rel D.id).l.length:Nat)=_
   rw [List.length_append];simp;omega
  ·rw [if_neg hs]
   show (((_::U.L).length:Nat):Int)+((U.rel D.id).l.length:Nat)=_
   rw [List.length_cons];omega
 ·rw [hst];omega
end
end Go.Proofs.YtncgbldcjfbknaaGreat
/- Plain: what an append onto nil, onto what a call owns leaves. -/
namespace Go.Proofs.YtncgbldcjfbknaaGreat
open Go.RowKit
set_option linter.unusedVariables false
/-- Behind an append onto nil. -/
theorem below_nil {W W' : World} {v:Value} (hg:W.grownBy W' v.ownBlock) (hv:v.ownBlock=none):Below W.heap.size W W':=(Below.refl _ _).grown hg (Nat.le_refl _) (fun k hk=>by rw [hv] at hk;cases hk)
theorem below_own {W0 W W' : World} {n size:Nat} {e:TypeId} {v:Value} {xs:List Value} (hb:Below W0.heap.size W0 W) (ho:W.ownsRow W0.heap.size e size v n xs) (hg:W.grownBy W' v.ownBlock):Below W0.heap.size W0 W':=hb.grown hg hb.size (fun k hk=>(ho.lt k hk).1)
end Go.Proofs.YtncgbldcjfbknaaGreat
namespace Go.Proofs.YtncgbldcjfbknaaGreat
open Go.RowKit
set_option linter.unusedVariables false
theorem DlV.of_own {w W:World} {base:Nat} {l:List Du} {v:Value} (ho:W.ownsRow base 127 2 v l.length (dcs l)) (hb:w.heap.size≤base) (hB:Below w.heap.size w W):DlV w l (.returned v) W:=by
 obtain ⟨A',c',rfl⟩:=own_form ho
 exact ⟨A',c',rfl,nwv_of (nwv_own ho hb),Dl.of_own ho,hB⟩
set_option maxHeartbeats 4000000 in
set_option maxRecDepth 20000 in
theorem rswap_any (A:Option Addr) (n c i k:Nat) (l:List Du) (w:World) (hv:Dl w w.heap.size (.slice A n c) l) (hi:i<n) (hk:k<n) (hik:i≠k) (h100:n≤100) :
  Calls Tryz.prog 219 #[.slice A n c,.int .i64 i,.int .i64 k] w (DlV w (swp l i k)):=by
 obtain ⟨rfl,hm1,hm2⟩:=hv.len
 obtain ⟨i0,hi0,hz0⟩:=Option.map_eq_some_iff.1 info_due
 simp only [Prod.mk.injEq] at hz0
 have HI:=Lh hi0
 have HZ:=Lh hz0
 have HRD:=Lh hv.rd
 have HV:=Lh hv
 have hi' : (i:Int)<(l.length:Int):=by omega
 have hk' : (k:Int)<(l.length:Int):=by omega
 obtain ⟨b,o,rfl,hb,c0,c1⟩:=hv.atg hi
 obtain ⟨b',o',e',hb',d0,d1⟩:=hv.atg hk
 injection e' with e'
 injection e' with e1 e2
 subst e1;subst e2
 clear hb' hv hi0 hz0
 obtain ⟨X,hX⟩:∃ X,ge l i=X:=⟨_,rfl⟩
 obtain ⟨Y,hY⟩:∃ Y,ge l k=Y:=⟨_,rfl⟩
 have HX:=Lh hX
 have HY:=Lh hY
 rw [hX] at c0 c1
 rw [hY] at d0 d1
 have HB:=Lh hb
 have HC:=Lh (And.intro (And.intro c0 c1) (And.intro d0 d1))
 clear hX hY c0 c1 d0 d1 hb
 go_enter Tryz.func219,Tryz.ntmps219
 go_wp2_with (at_builtin;refine wpList_append_rd _ rfl (.const (.slice none 0 0)) (.tmp 8) 29 rfl w.heap.size 127 i0 _ 2 16 Tryz.underlying29 HI.out HZ.out.1 HZ.out.2.1 HZ.out.2.2 rfl (by omega) (.slice none 0 0) 0 [] rfl (World.ownsRow_nil _ _ _ _) w.heap.size (some ⟨b,o,none⟩) l.length c (dcs l) rfl HRD.out (dcs_one l) (by unfold maxLen;omega) (by omega) (Nat.le_refl _) ?_;intro v1 w1 hown1 hg1 hat1)
 rw [Nat.zero_add,List.nil_append] at hown1
 have HB1:=Lh (show Below w.heap.size w w1 from (Below.refl w.heap.size w).grown hg1 (Nat.le_refl _) (fun k e=>by simp [Value.ownBlock] at e))
 obtain ⟨q,cap,rfl,hq,hle,hmx,hrow⟩:=own_row hown1 (by omega)
 have HR:=Lh (RwAt.mk (w:=w1) hrow rfl (Below.refl q w1))
 have HQ:=Lh hq
 have HM:=Lh (And.intro hle hmx)
 have hbq:¬(b=q):=by have:=HB.out;omega
 have hqb:¬(q=b):=fun e=>hbq e.symm
 clear hown1 hg1 hat1 hq hle hmx hrow
 obtain ⟨y0,y1,f0,f1,hql⟩:=HR.out.row.at_ hi
 obtain ⟨z0,z1,e0,e1,-⟩:=HR.out.row.at_ hk
 rw [HX.out] at y0 y1
 rw [HY.out] at z0 z1
 have c0:=(HB1.out.cell (p:=⟨b,o+i*2,none⟩) HB.out).trans HC.out.1.1
 have c1:=(HB1.out.cell (p:=⟨b,o+i*2+1,none⟩) HB.out).trans HC.out.1.2
 have d0:=(HB1.out.cell (p:=⟨b,o+k*2,none⟩) HB.out).trans HC.out.2.1
 have d1:=(HB1.out.cell (p:=⟨b,o+k*2+1,none⟩) HB.out).trans HC.out.2.2
 have n1:¬(i=k):=hik
 have n2:¬(k=i):=fun e=>hik e.symm
 go_region
 clear c0 c1 d0 d1 y0 y1 z0 z1 f0 f1 e0 e1 hql
 have HR2:=Lh ((HR.out.swap hi hk).drew)
 rw [HX.out,HY.out] at HR2
 generalize ((((w1.setCell ⟨q,i*2,none⟩ (.int .i64 Y.dl)).setCell ⟨q,i*2+1,none⟩ (.int .i64 Y.id)).setCell ⟨q,k*2,none⟩ (.int .i64 X.dl)).setCell ⟨q,k*2+1,none⟩ (.int .i64 X.id)).drew=w2 at*
 have HF:=Lh (show DlV w (swp l i k) (.returned (.slice (some ⟨q,0,none⟩) l.length cap)) w2 from ⟨some ⟨q,0,none⟩,cap,by rw [swp_len],nw_some HQ.out,by rw [swp_len];exact HR2.out.row.dl' HR2.out.len HM.out.1 HM.out.2,HB1.out.trans (HR2.out.bel.mono HQ.out)⟩)
 go_wp2
 go_ret
 exact HF.out
/-- A list of elements, from a block on. -/
structure LsAt (w:World) (lo:Nat) (v:Value) (l:List Du) (W:World):Prop where
 dl:Dl W W.heap.size v l
 nw:NwV lo v
 bel:Below w.heap.size w W
theorem LsAt.below {w W W' : World} {lo:Nat} {v:Value} {l:List Du} (h:LsAt w lo v l W) (hb:Below W.heap.size W W'):LsAt w lo v l W':=⟨h.dl.up hb,h.nw,h.bel.trans (hb.mono h.bel.size)⟩
theorem LsAt.drewN {w W:World} {lo:Nat} {v:Value} {l:List Du} (h:LsAt w lo v l W) (k:Nat):LsAt w lo v l (W.drewN k):=⟨h.dl,h.nw,⟨h.bel.os,h.bel.tape,h.bel.output,h.bel.size,h.bel.block⟩⟩
/-- A list as a result. -/
def LvP (w:World) (lo:Nat) (l:List Du) (e:Ending) (w' : World):Prop:=∃ v,e=.returned v∧LsAt w lo v l w'
set_option maxHeartbeats 4000000 in
set_option maxRecDepth 20000 in
theorem rup_any (lo:Nat) (A:Option Addr) (n c i:Nat) (l:List Du) (w:World) (hv:Dl w w.heap.size (.slice A n c) l) (hlo:lo≤w.heap.size) (hnw:Nw lo A) (hi:i<n) (h100:n≤100) :
  Calls Tryz.prog 207 #[.slice A n c,.int .i64 i] w (LvP w lo (upF l i)):=by
 obtain ⟨rfl,hm1,hm2⟩:=hv.len
 have H:=Lh (show LsAt w lo (.slice A l.length c) l w from ⟨hv,nwv_mk hnw,Below.refl _ _⟩)
 have HLO:=Lh hlo
 have hi100:(i:Int)≤100:=by omega
 have HN:=Lh (show l.length≤100 from h100)
 obtain ⟨n,hn⟩:∃ n,n=l.length:=⟨_,rfl⟩
 rw [←hn] at H HN hi ⊢
 have HLN:=Lh hn
 clear hv hm1 hm2 hnw hlo h100 hn
 go_enter Tryz.func207,Tryz.ntmps207
 go_wp2
 go_loopw [0,1] (fun hv iv wr=>∃ (j:Nat) (A' : Option Addr) (c' : Nat) (g:List Du),hv=.slice A' n c'∧iv=.int .i64 j∧j≤i∧g.length=n∧upF g j=upF l i∧LsAt w lo (.slice A' n c') g wr) (fun _ iv _=>(intOf iv).toNat)
 case atStart=>exact ⟨i,A,c,l,rfl,rfl,Nat.le_refl _,HLN.out.symm,rfl,H.out⟩
 case round=>
  obtain ⟨j,A',c',g,rfl,rfl,hji,hgn,hu,hla⟩:=hrel
  have HL:=Lh hla
  have HU:=Lh hu
  have HGN:=Lh hgn
  clear hla hu hgn
  by_cases hj0:0<j
  ·obtain ⟨p,hp⟩:∃ p,p=(j - 1) / 2:=⟨_,rfl⟩
   have HPP:=Lh hp
   have hjn:j<n:=by omega
   have hpn:p<n:=by omega
   have hw1:IntKind.i64.wrap ((j:Int) - 1)=(j:Int) - 1:=IntWalk.i64_in _ (by omega)
   have hq1:((j:Int) - 1).tdiv 2=(p:Int):=by rw [Int.tdiv_eq_ediv_of_nonneg (by omega)];omega
   have hw2:IntKind.i64.wrap (p:Int)=(p:Int):=IntWalk.i64_in _ (by omega)
   clear hp
   obtain ⟨b,o,rfl,hb,c0,c1⟩:=HL.out.dl.atg (k:=j) (by rw [HGN.out];exact hjn)
   obtain ⟨b',o',e',hb',d0,d1⟩:=HL.out.dl.atg (k:=p) (by rw [HGN.out];exact hpn)
   injection e' with e'
   injection e' with e1 e2
   subst e1;subst e2
   clear hb'
   obtain ⟨X,hX⟩:∃ X,ge g j=X:=⟨_,rfl⟩
   obtain ⟨Y,hY⟩:∃ Y,ge g p=Y:=⟨_,rfl⟩
   have HX:=Lh hX
   have HY:=Lh hY
   rw [hX] at c0 c1
   rw [hY] at d0 d1
   clear hX hY
   have HF:=Lh (fun w1=>rbef_any X Y w1)
   have HSA:=Lh (show wr.drew.cell? ⟨b,o+j*2,none⟩=some (.int .i64 X.dl)∧wr.drew.cell? ⟨b,o+j*2+1,none⟩=some (.int .i64 X.id)∧wr.drew.cell? ⟨b,o+p*2,none⟩=some (.int .i64 Y.dl)∧wr.drew.cell? ⟨b,o+p*2+1,none⟩=some (.int .i64 Y.id) from ⟨c0,c1,d0,d1⟩)
   have HSC:=Lh (fun w1 (hb1:Below wr.drew.heap.size wr.drew w1)=>show (w1.cell? ⟨b,o+j*2,none⟩=some (.int .i64 X.dl)∧w1.cell? ⟨b,o+j*2+1,none⟩=some (.int .i64 X.id)∧w1.cell? ⟨b,o+p*2,none⟩=some (.int .i64 Y.dl)∧w1.cell? ⟨b,o+p*2+1,none⟩=some (.int .i64 Y.id))∧LsAt w lo (.slice (some ⟨b,o,none⟩) n c') g w1 from ⟨⟨(hb1.cell (p:=⟨b,o+j*2,none⟩) hb).trans c0,(hb1.cell (p:=⟨b,o+j*2+1,none⟩) hb).trans c1,(hb1.cell (p:=⟨b,o+p*2,none⟩) hb).trans d0,(hb1.cell (p:=⟨b,o+p*2+1,none⟩) hb).trans d1⟩,HL.out.below (drew_bel hb1)⟩)
   have hj0' : (0:Int)<(j:Int):=by omega
   have hjn' : (j:Int)<(n:Int):=by omega
   have hpn' : (p:Int)<(n:Int):=by omega
   have hgd:decide ((0:Int)<(j:Int))=true:=decide_eq_true hj0'
   clear hb
   cases hbf:bef X Y with
   | true=>
    have HSW:=Lh (fun w1 hv=>rswap_any (some ⟨b,o,none⟩) n c' j p g w1 hv hjn hpn (by have:=HPP.out;omega) HN.out)
    have HUU:=Lh (show upF (swp g j p) p=upF l i by
     have hb2:bef (ge g j) (ge g ((j - 1) / 2))=true:=by rw [←HPP.out,HX.out,HY.out];exact hbf
     rw [HPP.out,←HU.out,upF_step hj0 hb2])
    rw [hbf] at HF
    clear hbf
    go_wp2
    go_region_held3 (fun W=>W.cell? ⟨b,o+j*2,none⟩=some (.int .i64 X.dl)∧W.cell? ⟨b,o+j*2+1,none⟩=some (.int .i64 X.id)∧W.cell? ⟨b,o+p*2,none⟩=some (.int .i64 Y.dl)∧W.cell? ⟨b,o+p*2+1,none⟩=some (.int .i64 Y.id))
     (first | with_reducible exact HSA.out | with_reducible exact HSB.out)
     ((go_at_call 168;(with_reducible refine (HF.out _).mono ?_);rintro e w1 ⟨rfl,hb1⟩;obtain ⟨hs,hbb⟩:=HSC.out _ hb1;have HSB:=Lh hs;have HL1:=Lh hbb;clear hb1 hs hbb))
    clear c0 c1 d0 d1
    go_wp2_with fail
    refine (HSW.out _ HL1.out.dl).mono ?_
    rintro e w2 ⟨A2,c2,rfl,hnw2,hl2,hb2⟩
    have hsl:(swp g j p).length=n:=by rw [swp_len];exact HGN.out
    rw [hsl] at hl2 ⊢
    have HL2:=Lh (show LsAt w lo (.slice A2 n c2) (swp g j p) w2 from ⟨hl2,nwv_mk (nw_low hnw2 (Nat.le_trans HLO.out HL1.out.bel.size)),HL1.out.bel.trans (hb2.mono HL1.out.bel.size)⟩)
    have HSL:=Lh hsl
    have HPJ:=Lh (show p<j by have:=HPP.out;omega)
    clear hnw2 hl2 hb2 hsl
    go_wp2
    go_roundw
    case rel=>exact ⟨p,A2,c2,swp g j p,rfl,rfl,by have:=HPJ.out;omega,HSL.out,HUU.out,HL2.out⟩
    case measure=>have:=HPJ.out;simp [intOf];omega
   | false=>
    have HUU:=Lh (show upF l i=g by
     have hb2:bef (ge g j) (ge g ((j - 1) / 2))=false:=by rw [←HPP.out,HX.out,HY.out];exact hbf
     rw [←HU.out,upF_stop hb2])
    rw [hbf] at HF
    clear hbf
    go_wp2
    go_region_held3 (fun W=>W.cell? ⟨b,o+j*2,none⟩=some (.int .i64 X.dl)∧W.cell? ⟨b,o+j*2+1,none⟩=some (.int .i64 X.id)∧W.cell? ⟨b,o+p*2,none⟩=some (.int .i64 Y.dl)∧W.cell? ⟨b,o+p*2+1,none⟩=some (.int .i64 Y.id))
     (first | with_reducible exact HSA.out | with_reducible exact HSB.out)
     ((go_at_call 168;(with_reducible refine (HF.out _).mono ?_);rintro e w1 ⟨rfl,hb1⟩;obtain ⟨hs,hbb⟩:=HSC.out _ hb1;have HSB:=Lh hs;have HL1:=Lh hbb;clear hb1 hs hbb))
    clear c0 c1 d0 d1 hw1 hq1 hw2
    go_wp2
    go_ret
    exact ⟨_,rfl,by rw [HUU.out];exact HL1.out⟩
  ·obtain rfl:j=0:=by omega
   have HUU:=Lh (show upF l i=g by rw [←HU.out,upF_zero])
   go_wp2
   go_quiet (fail)
   go_wp2
   go_ret
   exact ⟨_,rfl,by rw [HUU.out];exact HL.out.drewN _⟩
end Go.Proofs.YtncgbldcjfbknaaGreat
