/- What is proved here: shard.Ack by a contract; shard.Nack by a contract; shard.pull of what Take wants, by a contract; lease.Extend by a contract. -/
import Derived.Test.YtdobenkkkkaipaaGreatJ26
namespace Go.Proofs.YtdobenkkkkaipaaGreat
open Go.RowKit
set_option linter.unusedVariables false
noncomputable def akF (S:Sh) (id:Int):Sh:=⟨S.lv,S.lo,S.hi,S.cs,S.hd,S.sz,rlL S.l S.h id,rlH S.l S.h id⟩
def Sh.sz4 (S:Sh):Prop:=1≤S.cs.length∧S.cs.length≤1000∧S.l.length≤1000∧S.h.length≤1000
set_option maxHeartbeats 8000000 in
set_option maxRecDepth 20000 in
theorem sack_any (S:Sh) (D:Sx) (H:Hn) (now ep:Int) (w:World) (hs:SR w w.heap.size S D) (hn:heS S H now ep true=0→S.sz4) :
  Calls Tryz.prog 34 #[sv S D,H.v,.int .i64 now,.int .i64 ep] w (SE w (if heS S H now ep true=0 then akF S H.id else zS) (heS S H now ep true)):=by
 have e1:(w.alloc (.cells #[.bool S.lv,.int .i64 S.lo,.int .i64 S.hi,.slice D.A S.cs.length D.c,.int .i64 S.hd,.int .i64 S.sz,.slice D.A2 S.l.length D.c2,.slice D.A3 S.h.length D.c3] 33)).heap.size=w.heap.size+1:=by simp
 have e2:((w.alloc (.cells #[.bool S.lv,.int .i64 S.lo,.int .i64 S.hi,.slice D.A S.cs.length D.c,.int .i64 S.hd,.int .i64 S.sz,.slice D.A2 S.l.length D.c2,.slice D.A3 S.h.length D.c3] 33)).alloc (.cells #[.int .i64 H.id,.int .i64 H.gn,.int .i64 H.rt,.int .i64 H.ht] 36)).heap.size=w.heap.size+1+1:=by simp
 have H0:=Lh (((SAt.start 33 hs).alloc (.cells #[.int .i64 H.id,.int .i64 H.gn,.int .i64 H.rt,.int .i64 H.ht] 36)).alloc (.cells #[.bool false,.int .i64 0,.int .i64 0,.slice none 0 0,.int .i64 0,.int .i64 0,.slice none 0 0,.slice none 0 0] 33))
 have Q0:=Lh ((H4.start (w.alloc (.cells #[.bool S.lv,.int .i64 S.lo,.int .i64 S.hi,.slice D.A S.cs.length D.c,.int .i64 S.hd,.int .i64 S.sz,.slice D.A2 S.l.length D.c2,.slice D.A3 S.h.length D.c3] 33)) H 36).up ((Below.refl _ _).alloc (Nat.le_refl _) (.cells #[.bool false,.int .i64 0,.int .i64 0,.slice none 0 0,.int .i64 0,.int .i64 0,.slice none 0 0,.slice none 0 0] 33)))
 have R0:=Lh (SB8.zero ((w.alloc (.cells #[.bool S.lv,.int .i64 S.lo,.int .i64 S.hi,.slice D.A S.cs.length D.c,.int .i64 S.hd,.int .i64 S.sz,.slice D.A2 S.l.length D.c2,.slice D.A3 S.h.length D.c3] 33)).alloc (.cells #[.int .i64 H.id,.int .i64 H.gn,.int .i64 H.rt,.int .i64 H.ht] 36)) 33)
 rw [e1] at Q0
 rw [e2] at R0
 have HHE:=Lh (fun p W (k:SAt w p S D W)=>(show Calls Tryz.prog 91 #[sv S D,H.v,.int .i64 now,.int .i64 ep,.slice none 0 0] W (VlT W (heS S H now ep true)) from sherr_any S D H now ep none [] W k.sr Nl.nil (fun _=>rfl) (by simp)))
 obtain ⟨x,hx⟩:∃ x,x=heS S H now ep true:=⟨_,rfl⟩
 rw [←hx] at HHE hn
 rw [←hx]
 have HCL:=Lh (fun (h:x=0) p W (q:SAt w p S D W)=>sclone_any S D W q.sr (hn h).1 (hn h).2.1 (hn h).2.2.1 (hn h).2.2.2)
 have HRL:=Lh (fun p D W (q:SAt w p S D W)=>lrelease_any D.A2 S.l.length D.c2 S.l D.A3 S.h.length D.c3 S.h H.id W q.sr.el q.sr.dl)
 obtain ⟨T,hT⟩:∃ T,T=akF S H.id:=⟨_,rfl⟩
 obtain ⟨U,hU⟩:∃ U,U=if x=0 then akF S H.id else zS:=⟨_,rfl⟩
 have HUU:=Lh (show U=if x=0 then T else zS from by rw [hU,hT])
 have HTT:=Lh (show T=⟨S.lv,S.lo,S.hi,S.cs,S.hd,S.sz,rlL S.l S.h H.id,rlH S.l S.h H.id⟩ from hT)
 rw [←hU]
 clear hU hT hs hn hx
 generalize rlL S.l S.h H.id=gl at*
 generalize rlH S.l S.h H.id=gh at*
 generalize rlE S.l S.h H.id=rE at*
 generalize rlM S.l S.h H.id=M at*
 go_enter Tryz.func34,Tryz.ntmps34
 obtain ⟨t0,t1,t2,t3,t4,t5,t6,t7,tl⟩:=H0.out.s8.facts
 obtain ⟨q0,q1,q2,q3,ql⟩:=Q0.out
 go_wp2_with fail
 clear t0 t1 t2 t3 t4 t5 t6 t7 tl q0 q1 q2 q3 ql
 obtain ⟨p,hp⟩:∃ p,p=w.heap.size:=⟨_,rfl⟩
 obtain ⟨q,hq⟩:∃ q,q=w.heap.size+1:=⟨_,rfl⟩
 obtain ⟨r,hr⟩:∃ r,r=w.heap.size+1+1:=⟨_,rfl⟩
 have HPR:=Lh (show (¬p=r∧¬r=p∧¬p=q∧¬q=p)∧w.heap.size≤p∧p<q∧q<r by omega)
 rw [←hr,←hq,←hp]
 rw [←hr] at R0
 rw [←hq] at Q0
 rw [←hp] at H0
 clear e1 e2 hp hq hr
 generalize (((w.alloc (.cells #[.bool S.lv,.int .i64 S.lo,.int .i64 S.hi,.slice D.A S.cs.length D.c,.int .i64 S.hd,.int .i64 S.sz,.slice D.A2 S.l.length D.c2,.slice D.A3 S.h.length D.c3] 33)).alloc (.cells #[.int .i64 H.id,.int .i64 H.gn,.int .i64 H.rt,.int .i64 H.ht] 36)).alloc (.cells #[.bool false,.int .i64 0,.int .i64 0,.slice none 0 0,.int .i64 0,.int .i64 0,.slice none 0 0,.slice none 0 0] 33))=w1 at*
 refine (HHE.out _ _ H0.out).mono ?_
 rintro e w2 ⟨rfl,hb⟩
 have H1:=Lh (H0.out.below hb)
 have Q1:=Lh (Q0.out.up hb)
 have R1:=Lh (R0.out.up hb)
 clear hb HHE H0 Q0 R0
 by_cases hx:x=0
 ·have HX:=Lh hx
  subst hx
  obtain ⟨t0,t1,t2,t3,t4,t5,t6,t7,tl⟩:=H1.out.s8.facts
  go_wp2_with fail
  clear t0 t1 t2 t3 t4 t5 t6 t7 tl
  refine (HCL.out (by first | trivial | rfl) _ _ H1.out).mono ?_
  rintro e w3 ⟨D2,rfl,hn2,hr2,hb⟩
  have H2:=Lh (H1.out.below hb)
  have H3:=Lh (show SAt w p S D2 ((((((((w3.setCell ⟨p,0,none⟩ (.bool S.lv)).setCell ⟨p,1,none⟩ (.int .i64 S.lo)).setCell ⟨p,2,none⟩ (.int .i64 S.hi)).setCell ⟨p,3,none⟩ (.slice D2.A S.cs.length D2.c)).setCell ⟨p,4,none⟩ (.int .i64 S.hd)).setCell ⟨p,5,none⟩ (.int .i64 S.sz)).setCell ⟨p,6,none⟩ (.slice D2.A2 S.l.length D2.c2)).setCell ⟨p,7,none⟩ (.slice D2.A3 S.h.length D2.c3)) from H2.out.put hr2 (hn2.off H1.out.lt))
  have Q2:=Lh (Q1.out.up hb)
  have R3:=Lh (show SB8 ((((((((w3.setCell ⟨p,0,none⟩ (.bool S.lv)).setCell ⟨p,1,none⟩ (.int .i64 S.lo)).setCell ⟨p,2,none⟩ (.int .i64 S.hi)).setCell ⟨p,3,none⟩ (.slice D2.A S.cs.length D2.c)).setCell ⟨p,4,none⟩ (.int .i64 S.hd)).setCell ⟨p,5,none⟩ (.int .i64 S.sz)).setCell ⟨p,6,none⟩ (.slice D2.A2 S.l.length D2.c2)).setCell ⟨p,7,none⟩ (.slice D2.A3 S.h.length D2.c3)) r zS zX from (R1.out.up hb).put_far HPR.out.1.2.1 S D2)
  have N2:=Lh (show D2.nw (r+1) from hn2.low R1.out.lt)
  clear hn2 hr2 hb
  obtain ⟨⟨t0,t1,t2,t3,t4,t5,t6,t7,tl⟩,⟨f0,f1,f2,f3,f4,f5,f6,f7⟩⟩:=H2.out.s8.all
  obtain ⟨q0,q1,q2,q3,ql⟩:=Q2.out
  obtain ⟨⟨hpr,hrp,hpq,hqp⟩,-,-,-⟩:=HPR.out
  go_wp2_with fail
  clear t0 t1 t2 t3 t4 t5 t6 t7 tl f0 f1 f2 f3 f4 f5 f6 f7 q0 q1 q2 q3 ql hpr hrp hpq hqp H2 Q2 H1 Q1 R1
  generalize ((((((((w3.setCell ⟨p,0,none⟩ (.bool S.lv)).setCell ⟨p,1,none⟩ (.int .i64 S.lo)).setCell ⟨p,2,none⟩ (.int .i64 S.hi)).setCell ⟨p,3,none⟩ (.slice D2.A S.cs.length D2.c)).setCell ⟨p,4,none⟩ (.int .i64 S.hd)).setCell ⟨p,5,none⟩ (.int .i64 S.sz)).setCell ⟨p,6,none⟩ (.slice D2.A2 S.l.length D2.c2)).setCell ⟨p,7,none⟩ (.slice D2.A3 S.h.length D2.c3))=w3' at*
  refine (HRL.out _ _ _ H3.out).mono ?_
  rintro e w4 ⟨A3,c3,A4,c4,rfl,n3,n4,h3,h4,hb⟩
  have H4:=Lh (H3.out.below hb)
  have R4:=Lh (R3.out.up hb)
  have H5:=Lh (show SAt w p ⟨S.lv,S.lo,S.hi,S.cs,S.hd,S.sz,gl,gh⟩ ⟨D2.A,D2.c,A3,c3,A4,c4⟩ (((w4.setCell ⟨p,6,none⟩ (.slice A3 gl.length c3)).setCell ⟨p,7,none⟩ (.slice A4 gh.length c4))) from H4.out.setTab h3 h4 (offb_nw n3 H3.out.lt) (offb_nw n4 H3.out.lt))
  have N5:=Lh (show Nw (r+1) A3∧Nw (r+1) A4 from ⟨nw_low n3 R3.out.lt,nw_low n4 R3.out.lt⟩)
  clear n3 n4 h3 h4 hb
  have HF:=Lh (show SE w U 0 (.returned (.tuple #[.agg #[.bool S.lv,.int .i64 S.lo,.int .i64 S.hi,.slice D2.A S.cs.length D2.c,.int .i64 S.hd,.int .i64 S.sz,.slice A3 gl.length c3,.slice A4 gh.length c4],.int .i64 0])) (((((((((((w4.setCell ⟨p,6,none⟩ (.slice A3 gl.length c3)).setCell ⟨p,7,none⟩ (.slice A4 gh.length c4))).setCell ⟨r,0,none⟩ (.bool S.lv)).setCell ⟨r,1,none⟩ (.int .i64 S.lo)).setCell ⟨r,2,none⟩ (.int .i64 S.hi)).setCell ⟨r,3,none⟩ (.slice D2.A S.cs.length D2.c)).setCell ⟨r,4,none⟩ (.int .i64 S.hd)).setCell ⟨r,5,none⟩ (.int .i64 S.sz)).setCell ⟨r,6,none⟩ (.slice A3 gl.length c3)).setCell ⟨r,7,none⟩ (.slice A4 gh.length c4)) from by
   rw [HUU.out,if_pos trivial,HTT.out]
   have hne:=HPR.out.2
   exact ⟨⟨D2.A,D2.c,A3,c3,A4,c4⟩,rfl,⟨(N2.out.low (show w.heap.size≤r+1 by omega)).1,nw_low N5.out.1 (by omega),nw_low N5.out.2 (by omega)⟩,SR.sets (S:=⟨S.lv,S.lo,S.hi,S.cs,S.hd,S.sz,gl,gh⟩) (D:=⟨D2.A,D2.c,A3,c3,A4,c4⟩) ⟨(N2.out.off (Nat.lt_succ_self r)).o1,offb_nw N5.out.1 (Nat.lt_succ_self r),offb_nw N5.out.2 (Nat.lt_succ_self r)⟩ (Sh.l8 ⟨S.lv,S.lo,S.hi,S.cs,S.hd,S.sz,gl,gh⟩ ⟨D2.A,D2.c,A3,c3,A4,c4⟩) 0 _ H5.out.sr,set8s_below (show w.heap.size≤r by omega) H5.out.bel ⟨S.lv,S.lo,S.hi,S.cs,S.hd,S.sz,gl,gh⟩ ⟨D2.A,D2.c,A3,c3,A4,c4⟩⟩)
  obtain ⟨⟨t0,t1,t2,t3,t4,t5,t6,t7,tl⟩,⟨f0,f1,f2,f3,f4,f5,f6,f7⟩⟩:=H4.out.s8.all
  obtain ⟨⟨r0,r1,r2,r3,r4,r5,r6,r7,rl⟩,⟨g0,g1,g2,g3,g4,g5,g6,g7⟩⟩:=R4.out.all
  obtain ⟨⟨hpr,hrp,hpq,hqp⟩,-,-,-⟩:=HPR.out
  go_wp2
  exact bodyPost_ret (v:=.tuple #[.agg #[.bool S.lv,.int .i64 S.lo,.int .i64 S.hi,.slice D2.A S.cs.length D2.c,.int .i64 S.hd,.int .i64 S.sz,.slice A3 gl.length c3,.slice A4 gh.length c4],.int .i64 0]) (by simp only [results,Tryz.results34];go_simp <;> rfl) rfl HF.out
 ·have hne:(x != 0)=true:=bne_iff_ne.2 hx
  have HF:=Lh (show SE w U x (.returned (.tuple #[.agg #[.bool false,.int .i64 0,.int .i64 0,.slice none 0 0,.int .i64 0,.int .i64 0,.slice none 0 0,.slice none 0 0],.int .i64 x])) (z8 w2 r) from by
   rw [HUU.out,if_neg hx]
   have hne:=HPR.out.2
   exact se_zero (by omega) H1.out.bel)
  clear hx
  obtain ⟨⟨r0,r1,r2,r3,r4,r5,r6,r7,rl⟩,⟨g0,g1,g2,g3,g4,g5,g6,g7⟩⟩:=R1.out.all
  go_wp2
  exact bodyPost_ret (v:=.tuple #[.agg #[.bool false,.int .i64 0,.int .i64 0,.slice none 0 0,.int .i64 0,.int .i64 0,.slice none 0 0,.slice none 0 0],.int .i64 x]) (by simp only [results,Tryz.results34];go_simp <;> rfl) rfl HF.out
theorem nl_one (w:World) (a:Rn) (t:TypeId):Nl (w.alloc (.cells #[.int .i64 a.n,.int .i64 a.lo,.int .i64 a.hi] t)) (w.heap.size+1) (.slice (some ⟨w.heap.size,0,none⟩) 1 1) [a]:=by
 refine ⟨_,1,rfl,Nat.le_refl _,by unfold maxLen;omega,by simp [rcs,Rn.l],fun _=>⟨w.heap.size,0,rfl,Nat.lt_succ_self _,fun j u hu=>?_⟩⟩
 rw [Nat.zero_add,World.cell?_alloc_new]
 simpa [rcs,Rn.l] using hu
abbrev NkK (p q b:Nat) (S:Sh) (D:Sx) (H:Hn) (lim:Int) (W:World):Prop:=K8 p S D W∧W.cell? ⟨q,0,none⟩=some (.int .i64 H.id)∧W.cell? ⟨q,1,none⟩=some (.int .i64 H.gn)∧W.cell? ⟨q,2,none⟩=some (.int .i64 H.rt)∧W.cell? ⟨q,3,none⟩=some (.int .i64 H.ht)∧W.cell? ⟨b,0,none⟩=some (.int .i64 lim)
theorem NkK.mk {p q b:Nat} {S:Sh} {D:Sx} {H:Hn} {lim:Int} {W:World} (h:K8 p S D W) (k:H4 W q H) (c:W.cell? ⟨b,0,none⟩=some (.int .i64 lim)):NkK p q b S D H lim W:=⟨h,k.1,k.2.1,k.2.2.1,k.2.2.2.1,c⟩
set_option maxHeartbeats 8000000 in
set_option maxRecDepth 20000 in
theorem snack_any (S:Sh) (D:Sx) (H:Hn) (now ep lim:Int) (w:World) (hs:SR w w.heap.size S D) :
  Calls Tryz.prog 36 #[sv S D,H.v,.int .i64 now,.int .i64 ep,.int .i64 lim] w (SE w (if heS S H now ep (wi lim 1 8)=0 then gbN S H.id lim else zS) (heS S H now ep (wi lim 1 8))):=by
 have e1:(w.alloc (.cells #[.bool S.lv,.int .i64 S.lo,.int .i64 S.hi,.slice D.A S.cs.length D.c,.int .i64 S.hd,.int .i64 S.sz,.slice D.A2 S.l.length D.c2,.slice D.A3 S.h.length D.c3] 33)).heap.size=w.heap.size+1:=by simp
 have e2:((w.alloc (.cells #[.bool S.lv,.int .i64 S.lo,.int .i64 S.hi,.slice D.A S.cs.length D.c,.int .i64 S.hd,.int .i64 S.sz,.slice D.A2 S.l.length D.c2,.slice D.A3 S.h.length D.c3] 33)).alloc (.cells #[.int .i64 H.id,.int .i64 H.gn,.int .i64 H.rt,.int .i64 H.ht] 36)).heap.size=w.heap.size+1+1:=by simp
 have e3:(((w.alloc (.cells #[.bool S.lv,.int .i64 S.lo,.int .i64 S.hi,.slice D.A S.cs.length D.c,.int .i64 S.hd,.int .i64 S.sz,.slice D.A2 S.l.length D.c2,.slice D.A3 S.h.length D.c3] 33)).alloc (.cells #[.int .i64 H.id,.int .i64 H.gn,.int .i64 H.rt,.int .i64 H.ht] 36)).alloc (.cells #[.int .i64 lim] 3)).heap.size=w.heap.size+1+1+1:=by simp
 have H0:=Lh ((((SAt.start 33 hs).alloc (.cells #[.int .i64 H.id,.int .i64 H.gn,.int .i64 H.rt,.int .i64 H.ht] 36)).alloc (.cells #[.int .i64 lim] 3)).alloc (.cells #[.bool false,.int .i64 0,.int .i64 0,.slice none 0 0,.int .i64 0,.int .i64 0,.slice none 0 0,.slice none 0 0] 33))
 have Q0:=Lh (((H4.start (w.alloc (.cells #[.bool S.lv,.int .i64 S.lo,.int .i64 S.hi,.slice D.A S.cs.length D.c,.int .i64 S.hd,.int .i64 S.sz,.slice D.A2 S.l.length D.c2,.slice D.A3 S.h.length D.c3] 33)) H 36).up ((Below.refl _ _).alloc (Nat.le_refl _) (.cells #[.int .i64 lim] 3))).up ((Below.refl _ _).alloc (Nat.le_refl _) (.cells #[.bool false,.int .i64 0,.int .i64 0,.slice none 0 0,.int .i64 0,.int .i64 0,.slice none 0 0,.slice none 0 0] 33)))
 have R0:=Lh (SB8.zero (((w.alloc (.cells #[.bool S.lv,.int .i64 S.lo,.int .i64 S.hi,.slice D.A S.cs.length D.c,.int .i64 S.hd,.int .i64 S.sz,.slice D.A2 S.l.length D.c2,.slice D.A3 S.h.length D.c3] 33)).alloc (.cells #[.int .i64 H.id,.int .i64 H.gn,.int .i64 H.rt,.int .i64 H.ht] 36)).alloc (.cells #[.int .i64 lim] 3)) 33)
 have L0:Hid (((((w.alloc (.cells #[.bool S.lv,.int .i64 S.lo,.int .i64 S.hi,.slice D.A S.cs.length D.c,.int .i64 S.hd,.int .i64 S.sz,.slice D.A2 S.l.length D.c2,.slice D.A3 S.h.length D.c3] 33)).alloc (.cells #[.int .i64 H.id,.int .i64 H.gn,.int .i64 H.rt,.int .i64 H.ht] 36)).alloc (.cells #[.int .i64 lim] 3)).alloc (.cells #[.bool false,.int .i64 0,.int .i64 0,.slice none 0 0,.int .i64 0,.int .i64 0,.slice none 0 0,.slice none 0 0] 33)).cell? ⟨w.heap.size+1+1,0,none⟩=some (.int .i64 lim)):=Lh (by simp [go_sem])
 rw [e1] at Q0
 rw [e3] at R0
 have HHE:=Lh (fun A p W (k:SAt w p S D W) (hn:Nl W W.heap.size (.slice (some A) 1 1) [⟨lim,1,8⟩])=>(show Calls Tryz.prog 91 #[sv S D,H.v,.int .i64 now,.int .i64 ep,.slice (some A) 1 1] W (VlT W (heS S H now ep (wi lim 1 8))) from by
  have h:=sherr_any S D H now ep (some A) [⟨lim,1,8⟩] W k.sr hn (fun h=>by cases h) (by simp)
  have he:([⟨lim,1,8⟩]:List Rn).all Rn.ok=wi lim 1 8:=by simp [Rn.ok]
  rw [he] at h
  exact h))
 obtain ⟨x,hx⟩:∃ x,x=heS S H now ep (wi lim 1 8):=⟨_,rfl⟩
 rw [←hx] at HHE
 rw [←hx]
 have HL:=Lh (fun W=>alimit_any lim W)
 have HGB:=Lh (fun p b W (q:SAt w p S D W) (hc:W.cell? ⟨b,0,none⟩=some (.int .i64 lim)) (hb:b<W.heap.size)=>givenack_any S D H.id b lim W q.sr hc hb)
 obtain ⟨T,hT⟩:∃ T,T=gbN S H.id lim:=⟨_,rfl⟩
 obtain ⟨U,hU⟩:∃ U,U=if x=0 then gbN S H.id lim else zS:=⟨_,rfl⟩
 have HUU:=Lh (show U=if x=0 then T else zS from by rw [hU,hT])
 rw [←hU]
 rw [←hT] at HGB
 clear hU hT hs hx
 go_enter Tryz.func36,Tryz.ntmps36
 obtain ⟨p,hp⟩:∃ p,p=w.heap.size:=⟨_,rfl⟩
 obtain ⟨q,hq⟩:∃ q,q=w.heap.size+1:=⟨_,rfl⟩
 obtain ⟨b,hb0⟩:∃ b,b=w.heap.size+1+1:=⟨_,rfl⟩
 obtain ⟨r,hr⟩:∃ r,r=w.heap.size+1+1+1:=⟨_,rfl⟩
 have HPR:=Lh (show w.heap.size≤p∧p<q∧q<b∧b<r by omega)
 rw [←hr] at R0
 rw [←hb0] at L0
 rw [←hq] at Q0
 rw [←hp] at H0
 clear e1 e2 e3
 go_upto_region 1 with (fail)
 rw [←hr,←hb0,←hq,←hp]
 clear hp hq hb0 hr
 generalize ((((w.alloc (.cells #[.bool S.lv,.int .i64 S.lo,.int .i64 S.hi,.slice D.A S.cs.length D.c,.int .i64 S.hd,.int .i64 S.sz,.slice D.A2 S.l.length D.c2,.slice D.A3 S.h.length D.c3] 33)).alloc (.cells #[.int .i64 H.id,.int .i64 H.gn,.int .i64 H.rt,.int .i64 H.ht] 36)).alloc (.cells #[.int .i64 lim] 3)).alloc (.cells #[.bool false,.int .i64 0,.int .i64 0,.slice none 0 0,.int .i64 0,.int .i64 0,.slice none 0 0,.slice none 0 0] 33))=w1 at*
 have HLT:=Lh (show b<w1.heap.size from Nat.lt_trans HPR.out.2.2.2 R0.out.lt)
 have HD:=Lh H0.out.drew
 have Q1:=Lh (Q0.out.up ((Below.refl _ _).drew))
 have R1:=Lh (R0.out.up ((Below.refl _ _).drew))
 have L1:=Lh (show w1.drew.cell? ⟨b,0,none⟩=some (.int .i64 lim) from L0.out)
 have HT0:=Lh (show NkK p q b S D H lim w1.drew from NkK.mk HD.out.k8 Q1.out L1.out)
 go_region_held3 (fun W=>NkK p q b S D H lim W)
  (first | with_reducible exact HT0.out | with_reducible exact HT1.out | with_reducible exact HT2.out | with_reducible exact HT3.out | with_reducible exact HT4.out | with_reducible exact HT5.out)
  (first
  | (go_at_call 49;(with_reducible refine (HL.out _).mono ?_);rintro e w3 ⟨rfl,hb⟩;have HB2:=Lh hb;have HA2:=Lh ((HD.out.below hb).alloc (.cells #[.int .i64 lim,.int .i64 1,.int .i64 8] 81));have HB3:=Lh (hb.trans ((((Below.refl w3.heap.size w3).alloc (Nat.le_refl _) (.cells #[.int .i64 lim,.int .i64 1,.int .i64 8] 81))).mono hb.size));have Q2:=Lh (Q1.out.up HB3.out);have R2:=Lh (R1.out.up HB3.out);have L2:=Lh ((HB3.out.cell (p:=⟨b,0,none⟩) HLT.out).trans L1.out);have HT1:=Lh (show NkK p q b S D H lim w3 from NkK.mk (HD.out.below hb).k8 (Q1.out.up hb) ((hb.cell (p:=⟨b,0,none⟩) HLT.out).trans L1.out));have HT2:=Lh (show NkK p q b S D H lim (w3.alloc (.cells #[.int .i64 lim,.int .i64 1,.int .i64 8] 81)) from NkK.mk HA2.out.k8 Q2.out L2.out);have HNL:=Lh (nl_one w3 ⟨lim,1,8⟩ 81);clear hb)
  | (go_at_call 91;(with_reducible refine (HHE.out _ _ _ HA2.out ?_).mono ?_);(have:=HNL.out;simpa using this);rintro e w5 ⟨rfl,hb⟩;have HA5:=Lh (HA2.out.below hb);have Q5:=Lh (Q2.out.up hb);have R5:=Lh (R2.out.up hb);have HB5:=Lh (HB3.out.trans (hb.mono HB3.out.size));have L5:=Lh ((HB5.out.cell (p:=⟨b,0,none⟩) HLT.out).trans L1.out);have HT3:=Lh (show NkK p q b S D H lim w5 from NkK.mk HA5.out.k8 Q5.out L5.out);clear hb))
 have HL5:=Lh (show b<w5.heap.size from Nat.lt_trans HPR.out.2.2.2 R5.out.lt)
 clear HD HT0 HT1 HT2 HT3 HA2 HNL HL HHE H0 R0 R1 R2 Q0 Q1 Q2 HB2 HB3 HB5 L0 L1 L2 HLT
 by_cases hx:x=0
 ·have HX:=Lh hx
  subst hx
  obtain ⟨t0,t1,t2,t3,t4,t5,t6,t7,tl⟩:=HA5.out.s8.facts
  obtain ⟨q0,q1,q2,q3,ql⟩:=Q5.out
  go_wp2_with fail
  clear t0 t1 t2 t3 t4 t5 t6 t7 tl q0 q1 q2 q3 ql
  refine (HGB.out _ _ _ HA5.out L5.out HL5.out).mono ?_
  rintro e w6 ⟨D2,rfl,hn2,hr2,hb⟩
  have R6:=Lh (R5.out.up hb)
  have HF:=Lh (show SE w U 0 (.returned (.tuple #[.agg #[.bool T.lv,.int .i64 T.lo,.int .i64 T.hi,.slice D2.A T.cs.length D2.c,.int .i64 T.hd,.int .i64 T.sz,.slice D2.A2 T.l.length D2.c2,.slice D2.A3 T.h.length D2.c3],.int .i64 0])) ((((((((w6.setCell ⟨r,0,none⟩ (.bool T.lv)).setCell ⟨r,1,none⟩ (.int .i64 T.lo)).setCell ⟨r,2,none⟩ (.int .i64 T.hi)).setCell ⟨r,3,none⟩ (.slice D2.A T.cs.length D2.c)).setCell ⟨r,4,none⟩ (.int .i64 T.hd)).setCell ⟨r,5,none⟩ (.int .i64 T.sz)).setCell ⟨r,6,none⟩ (.slice D2.A2 T.l.length D2.c2)).setCell ⟨r,7,none⟩ (.slice D2.A3 T.h.length D2.c3)) from by
   rw [HUU.out,if_pos trivial]
   have hne:=HPR.out
   have hbel:=HA5.out.bel
   have hlt:=R5.out.lt
   exact ⟨D2,rfl,hn2.low hbel.size,SR.sets (hn2.off hlt) (T.l8 D2) 0 _ hr2,set8s_below (show w.heap.size≤r by omega) (hbel.trans (hb.mono hbel.size)) T D2⟩)
  clear hn2 hr2 hb
  obtain ⟨⟨r0,r1,r2,r3,r4,r5,r6,r7,rl⟩,⟨g0,g1,g2,g3,g4,g5,g6,g7⟩⟩:=R6.out.all
  go_wp2
  exact bodyPost_ret (v:=.tuple #[.agg #[.bool T.lv,.int .i64 T.lo,.int .i64 T.hi,.slice D2.A T.cs.length D2.c,.int .i64 T.hd,.int .i64 T.sz,.slice D2.A2 T.l.length D2.c2,.slice D2.A3 T.h.length D2.c3],.int .i64 0]) (by simp only [results,Tryz.results36];go_simp <;> rfl) rfl HF.out
 ·have hne:(x != 0)=true:=bne_iff_ne.2 hx
  have HF:=Lh (show SE w U x (.returned (.tuple #[.agg #[.bool false,.int .i64 0,.int .i64 0,.slice none 0 0,.int .i64 0,.int .i64 0,.slice none 0 0,.slice none 0 0],.int .i64 x])) (z8 w5 r) from by
   rw [HUU.out,if_neg hx]
   have hne:=HPR.out
   exact se_zero (by omega) HA5.out.bel)
  clear hx
  obtain ⟨⟨r0,r1,r2,r3,r4,r5,r6,r7,rl⟩,⟨g0,g1,g2,g3,g4,g5,g6,g7⟩⟩:=R5.out.all
  go_wp2
  exact bodyPost_ret (v:=.tuple #[.agg #[.bool false,.int .i64 0,.int .i64 0,.slice none 0 0,.int .i64 0,.int .i64 0,.slice none 0 0,.slice none 0 0],.int .i64 x]) (by simp only [results,Tryz.results36];go_simp <;> rfl) rfl HF.out
theorem own_end {w1:World} {base g cap:Nat} {T:List Msg} {X:Msg} (hown:w1.ownsRow base 44 7 (.slice (some ⟨g,0,none⟩) (T.length+1) cap) (T.length+1) (lcs T++X.l)):w1.ownsRow base 44 7 (.slice (some ⟨g,0,none⟩) (T.length+1) cap) (T++[X]).length (lcs (T++[X])):=by
 have hM1:lcs [X]=X.l:=by simp [lcs]
 rw [lcs_app,hM1,List.length_append]
 exact hown
theorem z_out {w W:World} {p r B:Nat} {S:Sh} {D:Sx} {A0:Option Addr} {c0:Nat} {L T:List Msg} {lv:Value} (h:PullAt w p r B S D A0 c0 L lv T W):SLs w S T (.returned (.tuple #[sv S D,lv])) (set8s W r S D):=by
 have hne:=h.ne
 have hold:=h.sa.old
 obtain ⟨A,c,rfl⟩:=own_form h.own
 refine ⟨D,A,c,rfl,h.dr.low (by omega),SR.sets (h.dr.off (Nat.lt_succ_self r)) (S.l8 D) 0 W h.sa.sr,nwv_of (nwv_own h.own (by omega)),?_,set8s_below (by omega) h.sa.bel S D⟩
 have hw:=own_sets (r:=r) (show r<B by omega) (S.l8 D) 0 W h.own
 rw [set8s_eq]
 exact Ls.of_own hw
set_option maxHeartbeats 8000000 in
set_option maxRecDepth 20000 in
theorem spull_any (V:Vs) (k:V.Ok) (D:Sx) (mx:Nat) (b1 b2:Nat) (ep lim:Int) (w:World) (hs:SR w w.heap.size V.sh D) (hc:CapAt b1 b2 ep lim w) (h12:mx≤1000) :
  Calls Tryz.prog 81 #[sv V.sh D,.int .i64 (mx:Int),.func (.func 82) #[] #[.pointer (some ⟨b1,0,none⟩),.pointer (some ⟨b2,0,none⟩)]] w (SLs w (V.ring (pk mx (fun M=>rvF M ep lim) V.L).2).sh (pk mx (fun M=>rvF M ep lim) V.L).1):=by
 obtain ⟨ff,hff⟩:∃ ff:Msg→Bool,ff=(fun M=>rvF M ep lim):=⟨_,rfl⟩
 have HT:=Lh (fun M W (h:CapAt b1 b2 ep lim W)=>show Calls Tryz.prog 82 #[M.v,.pointer (some ⟨b1,0,none⟩),.pointer (some ⟨b2,0,none⟩)] W fun e w'=>e=.returned (.bool (ff M))∧Below W.heap.size W w' by rw [hff];exact take1_any b1 b2 ep lim M W h)
 rw [←hff]
 clear hff
 obtain ⟨i0,hi0,hz0⟩:=Option.map_eq_some_iff.1 info_msg
 simp only [Prod.mk.injEq] at hz0
 have HI:=Lh hi0
 have HZ:=Lh hz0
 have HLN:=Lh (show V.L.length≤12 from Nat.le_trans k.lenL k.n2)
 have HLS:=Lh k.ls
 have HS0:V.sh=(V.ring (pkL mx ff V.L 0)).sh:=by rw [pkL_zero];rfl
 have hn1:1≤V.sh.cs.length:=by rw [show V.sh.cs.length=V.n from fil_len _ _ _];exact k.n1
 have hn2:V.sh.cs.length≤12:=by rw [show V.sh.cs.length=V.n from fil_len _ _ _];exact k.n2
 have hn3:V.sh.l.length≤12:=k.tb.len
 have hn4:V.sh.h.length≤12:=by have:=k.tb.hlen;show V.h.length≤12;have:=k.tb.len;omega
 have HGL:=Lh (fun p D W (q:SAt w p V.sh D W)=>glist_any D.A V.sh.cs.length D.c V.sh.cs V.sh.hd V.sh.sz W q.sr.ls)
 have HLS' : lsF V.sh.cs V.sh.hd V.sh.sz=V.L:=k.ls
 rw [HLS'] at HGL
 have HRM:=Lh (fun i (hi:i<V.L.length) h1 h2 S S' hS hS'=>pull_rm (mx:=mx) (f:=ff) (i:=i) k hi h1 h2 (S:=S) (S':=S') hS hS')
 have HCC:=Lh hc
 have HPN:=Lh (fun i (hi:i<V.L.length) h=>pk_no (mx:=mx) (p:=ff) (L:=V.L) hi h)
 have HPY:=Lh (fun i (hi:i<V.L.length) h1 h2=>pk_yes (mx:=mx) (p:=ff) (L:=V.L) hi h1 h2)
 have HLN2:=Lh (fun i (hi:i<V.L.length) h=>pkL_no (mx:=mx) (p:=ff) (L:=V.L) hi h)
 have HPE:Hid (pk mx ff V.L=pk mx ff (V.L.take V.L.length)):=Lh (by rw [List.take_length])
 have HPL:Hid (pkL mx ff V.L V.L.length=(pk mx ff V.L).2):=Lh pkL_end
 obtain ⟨S,hS⟩:∃ S,S=V.sh:=⟨_,rfl⟩
 rw [←hS] at hs hn1 hn2 hn3 hn4 HGL HS0
 rw [←hS]
 have HS0':=Lh HS0
 have HCL:=Lh (fun p D W (q:SAt w p S D W)=>sclone_any S D W q.sr hn1 (by omega) (by omega) (by omega))
 have H0:=Lh ((SAt.start 33 hs).alloc (.cells #[.bool false,.int .i64 0,.int .i64 0,.slice none 0 0,.int .i64 0,.int .i64 0,.slice none 0 0,.slice none 0 0] 33))
 have R0:=Lh (SB8.zero (w.alloc (.cells #[.bool S.lv,.int .i64 S.lo,.int .i64 S.hi,.slice D.A S.cs.length D.c,.int .i64 S.hd,.int .i64 S.sz,.slice D.A2 S.l.length D.c2,.slice D.A3 S.h.length D.c3] 33)) 33)
 have hmf:∀ (fn:Fn) (first cap:Array Value) (w:World),(Instr.makeFunc fn first cap).run Tryz.prog w=.ok (.func fn first cap) w:=fun _ _ _ _=>rfl
 clear hS hs k hc HLS HLS' HS0 hn1 hn2 hn3 hn4 hi0 hz0
 obtain ⟨L,hL⟩:∃ L,L=V.L:=⟨_,rfl⟩
 rw [←hL] at HLN HGL HRM HPN HPY HLN2 HPE HPL HS0' ⊢
 clear hL
 have hl64:L.length≤9223372036854775807:=by have:=HLN.out;omega
 go_enter Tryz.func81,Tryz.ntmps81
 obtain ⟨t0,t1,t2,t3,t4,t5,t6,t7,tl⟩:=H0.out.s8.facts
 go_wp2_with fail
 clear t0 t1 t2 t3 t4 t5 t6 t7 tl
 obtain ⟨p,hp⟩:∃ p,p=w.heap.size:=⟨_,rfl⟩
 obtain ⟨r,hr⟩:∃ r,r=w.heap.size+1:=⟨_,rfl⟩
 have e1:(w.alloc (.cells #[.bool S.lv,.int .i64 S.lo,.int .i64 S.hi,.slice D.A S.cs.length D.c,.int .i64 S.hd,.int .i64 S.sz,.slice D.A2 S.l.length D.c2,.slice D.A3 S.h.length D.c3] 33)).heap.size=r:=by rw [hr];simp
 rw [e1] at R0
 have HPR:=Lh (show ¬p=r∧¬r=p∧w.heap.size≤p∧p<r by omega)
 rw [←hr,←hp]
 rw [←hp] at H0
 clear e1 hp hr
 generalize ((w.alloc (.cells #[.bool S.lv,.int .i64 S.lo,.int .i64 S.hi,.slice D.A S.cs.length D.c,.int .i64 S.hd,.int .i64 S.sz,.slice D.A2 S.l.length D.c2,.slice D.A3 S.h.length D.c3] 33)).alloc (.cells #[.bool false,.int .i64 0,.int .i64 0,.slice none 0 0,.int .i64 0,.int .i64 0,.slice none 0 0,.slice none 0 0] 33))=w1 at*
 refine (HCL.out _ _ _ H0.out).mono ?_
 rintro e w2 ⟨D2,rfl,hn2,hr2,hb⟩
 have H1:=Lh (H0.out.below hb)
 have H2:=Lh (show SAt w p S D2 ((((((((w2.setCell ⟨p,0,none⟩ (.bool S.lv)).setCell ⟨p,1,none⟩ (.int .i64 S.lo)).setCell ⟨p,2,none⟩ (.int .i64 S.hi)).setCell ⟨p,3,none⟩ (.slice D2.A S.cs.length D2.c)).setCell ⟨p,4,none⟩ (.int .i64 S.hd)).setCell ⟨p,5,none⟩ (.int .i64 S.sz)).setCell ⟨p,6,none⟩ (.slice D2.A2 S.l.length D2.c2)).setCell ⟨p,7,none⟩ (.slice D2.A3 S.h.length D2.c3)) from H1.out.put hr2 (hn2.off H0.out.lt))
 have R2:=Lh (show SB8 ((((((((w2.setCell ⟨p,0,none⟩ (.bool S.lv)).setCell ⟨p,1,none⟩ (.int .i64 S.lo)).setCell ⟨p,2,none⟩ (.int .i64 S.hi)).setCell ⟨p,3,none⟩ (.slice D2.A S.cs.length D2.c)).setCell ⟨p,4,none⟩ (.int .i64 S.hd)).setCell ⟨p,5,none⟩ (.int .i64 S.sz)).setCell ⟨p,6,none⟩ (.slice D2.A2 S.l.length D2.c2)).setCell ⟨p,7,none⟩ (.slice D2.A3 S.h.length D2.c3)) r zS zX from (R0.out.up hb).put_far HPR.out.2.1 S D2)
 have N2:=Lh (show D2.nw (r+1) from hn2.low R0.out.lt)
 clear hn2 hr2 hb
 obtain ⟨⟨t0,t1,t2,t3,t4,t5,t6,t7,tl⟩,⟨f0,f1,f2,f3,f4,f5,f6,f7⟩⟩:=H1.out.s8.all
 go_wp2_with fail
 clear t0 t1 t2 t3 t4 t5 t6 t7 tl f0 f1 f2 f3 f4 f5 f6 f7
 generalize ((((((((w2.setCell ⟨p,0,none⟩ (.bool S.lv)).setCell ⟨p,1,none⟩ (.int .i64 S.lo)).setCell ⟨p,2,none⟩ (.int .i64 S.hi)).setCell ⟨p,3,none⟩ (.slice D2.A S.cs.length D2.c)).setCell ⟨p,4,none⟩ (.int .i64 S.hd)).setCell ⟨p,5,none⟩ (.int .i64 S.sz)).setCell ⟨p,6,none⟩ (.slice D2.A2 S.l.length D2.c2)).setCell ⟨p,7,none⟩ (.slice D2.A3 S.h.length D2.c3))=w3 at*
 refine (HGL.out _ _ _ H2.out).mono ?_
 rintro e w4 ⟨v4,rfl,hn4,hl4,hb⟩
 obtain ⟨A0,c0,rfl,_,_⟩:=hl4.form
 have HP0:=Lh (show PullAt w p r w4.heap.size S D2 A0 c0 L (.slice none 0 0) [] w4 from
  ⟨H2.out.below hb,R2.out.up hb,hl4,offb_nw (nwv_of hn4) H2.out.lt,World.ownsRow_nil _ _ _ _,fun q e=>by simp [Value.ownBlock] at e,N2.out,HPR.out.2.2.2,(R2.out.up hb).lt,Nat.le_refl _⟩)
 clear hn4 hl4 hb H0 R0 H1 H2 R2 N2
 go_wp2
 obtain ⟨B,hB⟩:∃ B,B=w4.heap.size:=⟨_,rfl⟩
 rw [←hB] at HP0
 clear hB
 go_loopw [8,17] (fun lv i wr=>∃ (k:Nat) (S:Sh) (D:Sx),k≤L.length∧i=.int .i64 k∧Hid (S=(V.ring (pkL mx ff L k)).sh)∧Hid (PullAt w p r B S D A0 c0 L lv (pk mx ff (L.take k)).1 wr)) (fun _ i _=>L.length - (intOf i).toNat)
 case atStart=>exact ⟨0,S,D2,Nat.zero_le _,rfl,HS0',HP0⟩
 case round=>
  clear HP0 HS0'
  obtain ⟨k,S,D,hk,rfl,HS,HP⟩:=hrel
  by_cases hlt:k<L.length
  ·obtain ⟨b,o,rfl,hbl,c0',c1',c2',c3',c4',c5',c6'⟩:=HP.out.l0.at_ hlt
   have HTL:=Lh (show (pk mx ff (L.take k)).1.length≤12 by
    have h1:=(pk_sub mx ff (L.take k)).2.1.length_le
    have h2:=HLN.out
    simp at h1;omega)
   obtain ⟨A5,cc5,rfl⟩:=own_form HP.out.own
   have HPN':=Lh (HPN.out k hlt)
   have HPY':=Lh (HPY.out k hlt)
   have HLN':=Lh (HLN2.out k hlt)
   have HRM':=Lh (HRM.out k hlt)
   have HTX:=Lh (fun W (h:CapAt b1 b2 ep lim W)=>HT.out L[k] W h)
   clear HPN HPY HLN2 HRM HT
   generalize (pk mx ff (L.take k)).1=T at*
   generalize L[k]=X at*
   have HPA:=Lh (HP.out.below ((Below.refl _ _).alloc (Nat.le_refl _) (.cells #[.int .i64 X.id,.int .i64 X.rt,.int .i64 X.ep,.int .i64 X.ct,.int .i64 X.gn,.int .i64 X.st,.string X.bd] 44)))
   have HMX:=Lh (MBx.start wr X 44)
   by_cases hmx:T.length<mx
   ·have hmx' : (T.length:Int)<(mx:Int):=by omega
    cases hf:ff X with
    | false=>
     have HPK:=Lh (HPN'.out (fun h=>by rw [hf] at h;exact absurd h.2 (by decide)))
     have HLK:=Lh (HLN'.out (fun h=>by rw [hf] at h;exact absurd h.2 (by decide)))
     rw [hf] at HTX
     clear hf HPN' HPY' HLN' HRM'
     go_wp2_with fail
     refine (HTX.out _ (HCC.out.below HPA.out.sa.bel)).mono ?_
     rintro e w5 ⟨rfl,hb⟩
     have HP5:=Lh (HPA.out.below hb)
     clear hb
     go_wp2
     go_roundw
     case rel=>exact ⟨k+1,S,D,by omega,by go_num,Lh (by rw [HLK.out];exact HS.out),by rw [HPK.out];exact HP5⟩
     case measure=>simp [intOf];omega
    | true=>
     have HPK:=Lh (HPY'.out hmx hf)
     obtain ⟨S',hS'⟩:∃ S',S' = (V.ring (pkL mx ff L (k+1))).sh:=⟨_,rfl⟩
     have HRK:=Lh (HRM'.out hmx hf S S' HS.out hS')
     have HSK:=Lh hS'
     have HRE:=Lh (fun D W (q:SAt w p S D W)=>remove_any D.A S.cs.length D.c S.cs S.hd S.sz X.id W q.sr.ls)
     rw [hf] at HTX
     clear hf HPN' HPY' HLN' HRM' hS'
     generalize ifE (rmE S.cs S.hd S.sz X.id) S.hd=hd at*
     generalize ifE (rmE S.cs S.hd S.sz X.id) (S.sz - 1)=sz at*
     generalize rmC S.cs S.hd S.sz X.id=cs at*
     generalize rmM S.cs S.hd S.sz X.id=rM at*
     generalize rmE S.cs S.hd S.sz X.id=rE at*
     go_wp2_with fail
     refine (HTX.out _ (HCC.out.below HPA.out.sa.bel)).mono ?_
     rintro e w5 ⟨rfl,hb⟩
     have HP5:=Lh (HPA.out.below hb)
     have HM5:=Lh (HMX.out.up hb)
     clear hb
     obtain ⟨⟨t0,t1,t2,t3,t4,t5,t6,t7,tl⟩,⟨f0,f1,f2,f3,f4,f5,f6,f7⟩⟩:=HP5.out.sa.s8.all
     obtain ⟨v0,v1,v2,v3,v4,v5,v6⟩:=HM5.out.m7
     have vl:=HM5.out.lt
     go_wp2_with fail
     clear t0 t1 t2 t3 t4 t5 t6 t7 tl f0 f1 f2 f3 f4 f5 f6 f7 v0 v1 v2 v3 v4 v5 v6 vl
     refine (HRE.out _ _ HP5.out.sa).mono ?_
     rintro e w6 ⟨A6,c6,rfl,hn6,hl6,hb⟩
     have HP6:=Lh (HP5.out.below hb)
     have HM6:=Lh (HM5.out.up hb)
     have HP7:=Lh (show PullAt w p r B S' ⟨A6,c6,D.A2,D.c2,D.A3,D.c3⟩ (some ⟨b,o,none⟩) c0 L (.slice A5 T.length cc5) T (((w6.setCell ⟨p,3,none⟩ (.slice A6 cs.length c6)).setCell ⟨p,4,none⟩ (.int .i64 hd)).setCell ⟨p,5,none⟩ (.int .i64 sz)) from by
      rw [HRK.out]
      exact HP6.out.setRing hd sz hl6 hn6 HP5.out.ne.2.2 (fun q e=>(HP5.out.own.lt q e).2))
     have HP8:=Lh (HP7.out.below ((Below.refl _ _).alloc (Nat.le_refl _) (.cells #[.int .i64 X.id,.int .i64 X.rt,.int .i64 X.ep,.int .i64 X.ct,.int .i64 X.gn,.int .i64 X.st,.string X.bd] 44)))
     have HCX:=Lh (msg_row (((w6.setCell ⟨p,3,none⟩ (.slice A6 cs.length c6)).setCell ⟨p,4,none⟩ (.int .i64 hd)).setCell ⟨p,5,none⟩ (.int .i64 sz)) X 44)
     have HYP:=Lh (show ¬wr.heap.size=p∧¬p=wr.heap.size by have h1:=HP.out.ne;omega)
     clear hn6 hl6 hb
     obtain ⟨⟨t0,t1,t2,t3,t4,t5,t6,t7,tl⟩,⟨f0,f1,f2,f3,f4,f5,f6,f7⟩⟩:=HP6.out.sa.s8.all
     obtain ⟨v0,v1,v2,v3,v4,v5,v6⟩:=HM6.out.m7
     have vl:=HM6.out.lt
     obtain ⟨hyp,hpy⟩:=HYP.out
     go_wp2_with (at_builtin;refine wpList_append_lies _ rfl (.tmp 40) (.tmp 42) 25 rfl B 44 i0 _ 7 64 Tryz.underlying25 HI.out HZ.out.1 HZ.out.2.1 HZ.out.2.2 rfl (by omega) (.slice A5 T.length cc5) T.length (lcs T) rfl HP8.out.own ⟨w6.heap.size,0,none⟩ 1 1 X.l rfl (by simp [Msg.l_len]) (fun j u hu=>by have:=HCX.out j u hu;simpa using this) X.l_one (by omega) (by have:=HTL.out;unfold maxLen;omega) (by have:=HTL.out;omega) HP8.out.ne.2.2 _ rfl ?_;intro g cap w8 hown hgrow hat hglt)
     have HP9:=Lh (HP8.out.app (own_end hown) hgrow (fun q e=>by
      rcases hat with h | h
      ·left;rw [h];simpa [Value.ownBlock] using e
      ·right;simp only [Value.ownBlock] at e;injection e with e;rw [←e,h];exact Nat.le_refl _))
     clear hown hgrow hat hglt t0 t1 t2 t3 t4 t5 t6 t7 tl f0 f1 f2 f3 f4 f5 f6 f7 v0 v1 v2 v3 v4 v5 v6 vl
     go_wp2
     go_roundw
     case rel=>exact ⟨k+1,S',⟨A6,c6,D.A2,D.c2,D.A3,D.c3⟩,by omega,by go_num,HSK,by rw [HPK.out];exact HP9⟩
     case measure=>simp [intOf];omega
   ·have hmx' : ¬(T.length:Int)<(mx:Int):=by omega
    have HPK:=Lh (HPN'.out (fun h=>hmx h.1))
    have HLK:=Lh (HLN'.out (fun h=>hmx h.1))
    clear hmx HPN' HPY' HLN' HRM'
    go_wp2
    go_roundw
    case rel=>exact ⟨k+1,S,D,by omega,by go_num,Lh (by rw [HLK.out];exact HS.out),by rw [HPK.out];exact HPA⟩
    case measure=>simp [intOf];omega
  ·obtain rfl:k=L.length:=by omega
   obtain ⟨A5,cc5,rfl⟩:=own_form HP.out.own
   have HF:=Lh (show SLs w (V.ring (pk mx ff L).2).sh (pk mx ff L).1 (.returned (.tuple #[sv S D,.slice A5 (pk mx ff (L.take L.length)).1.length cc5])) (set8s wr r S D) from by
    have e:(pk mx ff (L.take L.length)).1=(pk mx ff L).1:=by rw [List.take_length]
    rw [←HPL.out,←HS.out,←e]
    exact z_out HP.out)
   obtain ⟨⟨t0,t1,t2,t3,t4,t5,t6,t7,tl⟩,⟨f0,f1,f2,f3,f4,f5,f6,f7⟩⟩:=HP.out.sa.s8.all
   obtain ⟨⟨r0,r1,r2,r3,r4,r5,r6,r7,rl⟩,⟨g0,g1,g2,g3,g4,g5,g6,g7⟩⟩:=HP.out.rs.all
   obtain ⟨hpr,hrp,-,-⟩:=HPR.out
   go_wp2
   exact bodyPost_ret (v:=.tuple #[sv S D,.slice A5 (pk mx ff (L.take L.length)).1.length cc5]) (by simp only [results,Tryz.results81];go_simp <;> rfl) rfl HF.out
theorem ERow.of_own {W:World} {base q n cap:Nat} {e:TypeId} {l:List Le} (h:W.ownsRow base e 8 (.slice (some ⟨q,0,none⟩) n cap) n (ecs l)):ERow W q n (lg l):=by
 refine ⟨?_,fun k hk j hj=>?_,fun j=>World.ownsRow.frozenAt h j⟩
 ·rcases h.2 with ⟨hv,_⟩ | ⟨g',cap',cur,hv,_,hh,_⟩
  ·cases hv
  ·cases hv;exact (Array.getElem?_eq_some_iff.1 hh).1
 ·have hl:k<l.length:=by have:=h.1;rw [ecs_len] at this;omega
  have hj8:j<(l[k]).l.length:=hj
  have:=h.cells (g:=q) rfl (k*8+j) ((l[k]).l[j]) (by rw [ecs_at l k j hl hj];exact List.getElem?_eq_getElem hj8)
  rw [add_mk,Nat.zero_add] at this
  rw [this,←lg_get hl]
  exact (List.getElem?_eq_getElem hj8).symm
theorem ERow.till {W:World} {q n:Nat} {f:Nat→Le} (h:ERow W q n f) {k:Nat} (hk:k<n) (d:Int):ERow (W.setCell ⟨q,k*8+7,none⟩ (.int .i64 d)) q n (fun i=>if i=k then (f k).till d else f i):=by
 refine ⟨by simpa using h.1,fun i hi j hj=>?_,fun o=>by rw [World.frozen?_setCell];exact h.2.2 o⟩
 by_cases e:i=k
 ·subst e
  simp only [if_true]
  by_cases e7:j=7
  ·subst e7
   rw [World.cell?_setCell_same' _ _ _ (by rw [h.2.1 i hi 7 (by omega)];rfl)]
   rfl
  ·rw [World.cell?_setCell_other _ _ _ _ (fun e=>by injection e with _ e _;omega),h.2.1 i hi j hj]
   match j,(show j<7 by omega) with
   | 0,_=>rfl
   | 1,_=>rfl
   | 2,_=>rfl
   | 3,_=>rfl
   | 4,_=>rfl
   | 5,_=>rfl
   | 6,_=>rfl
 ·simp only [if_neg e]
  rw [World.cell?_setCell_other _ _ _ _ (fun e'=>by injection e' with _ e' _;omega),h.2.1 i hi j hj]
theorem lg_row (l:List Le):(List.range l.length).map (lg l)=l:=by
 refine List.ext_getElem (by simp) fun i h1 h2=>?_
 rw [List.getElem_map,List.getElem_range,lg_get h2]
theorem lg_set (l:List Le) (k:Nat) (hk:k<l.length) (x:Le) (i:Nat):lg (l.set k x) i=if i=k then x else lg l i:=by
 unfold lg
 rw [List.getD_eq_getElem?_getD,List.getD_eq_getElem?_getD,List.getElem?_set]
 by_cases e:k=i
 ·subst e;rw [if_pos rfl,if_pos rfl,if_pos hk];rfl
 ·rw [if_neg e,if_neg (fun h=>e h.symm)]
theorem till_el {W:World} {q n cap k:Nat} {l:List Le} (h:ERow W q n (lg l)) (hn:l.length=n) (hk:k<n) (d:Int) (hc:n≤cap) (hm:cap≤maxLen):El (W.setCell ⟨q,k*8+7,none⟩ (.int .i64 d)) (W.setCell ⟨q,k*8+7,none⟩ (.int .i64 d)).heap.size (.slice (some ⟨q,0,none⟩) n cap) (l.set k ((lg l k).till d)):=by
 have h1:=(h.till hk d).el n cap (Nat.le_refl _) hc hm
 have h2:(List.range n).map (fun i=>if i=k then (lg l k).till d else lg l i)=l.set k ((lg l k).till d):=by
  rw [←lg_row (l.set k ((lg l k).till d)),List.length_set,hn]
  exact List.map_congr_left fun i _=>(lg_set l k (by omega) _ i).symm
 rw [h2] at h1
 exact h1
structure ExW (w:World) (p r:Nat) (A:Option Addr) (c:Nat) (l:List Le) (A2:Option Addr) (c2:Nat) (h:List Du) (W:World):Prop where
 va:VaA w p A c l A2 c2 h W
 rt:RT W r none 0 0 none 0 0
 ne:w.heap.size≤p∧p<r
section
variable {w W W' : World} {p r c c2:Nat} {A A2:Option Addr} {l:List Le} {h:List Du}
theorem ExW.below (k:ExW w p r A c l A2 c2 h W) (hb:Below W.heap.size W W'):ExW w p r A c l A2 c2 h W':=⟨k.va.below hb,k.rt.below hb k.rt.lt,k.ne⟩
theorem ExW.start (hv:El w w.heap.size (.slice A l.length c) l) (hd:Dl w w.heap.size (.slice A2 h.length c2) h) (t:TypeId):ExW w w.heap.size (w.heap.size+1) A c l A2 c2 h ((w.alloc (.cells #[.slice A l.length c,.slice A2 h.length c2] t)).alloc (.cells #[.slice none 0 0,.slice none 0 0] t)):=by
 have e1:(w.alloc (.cells #[.slice A l.length c,.slice A2 h.length c2] t)).heap.size=w.heap.size+1:=by simp
 have k1:=RT.start (w.alloc (.cells #[.slice A l.length c,.slice A2 h.length c2] t)) none 0 0 none 0 0 t
 rw [e1] at k1
 exact ⟨(VaA.start t hv hd).alloc _,k1,Nat.le_refl _,Nat.lt_succ_self _⟩
end
set_option maxHeartbeats 8000000 in
set_option maxRecDepth 20000 in
theorem lextend_any (A:Option Addr) (n c:Nat) (l:List Le) (A2:Option Addr) (n2 c2:Nat) (h:List Du) (id dl:Int) (w:World) (hv:El w w.heap.size (.slice A n c) l) (hd:Dl w w.heap.size (.slice A2 n2 c2) h) :
  Calls Tryz.prog 99 #[tv A n c A2 n2 c2,.int .i64 id,.int .i64 dl] w (TE w (exL l h id dl) (exH l h id dl) (exE l h id dl)):=by
 obtain ⟨rfl,hm1,hm2⟩:=hv.len
 obtain ⟨rfl,hm3,hm4⟩:=hd.len
 have H0:=Lh (ExW.start hv hd 31)
 have HRM:=Lh (fun p W (k:VaA w p A c l A2 c2 h W)=>removed_any A l.length c l A2 h.length c2 h id W k.el k.dl)
 clear hv hd hm1 hm2 hm3 hm4
 by_cases he:rlE l h id=0
 ·obtain ⟨t,k,hk,hka,_,hH,-,-⟩:=rlE_at he
  have hxe:=exE_ok (dl:=dl) he
  rw [he,hH] at HRM
  have HPU:=Lh (fun A3 c3 W (q:Dl W W.heap.size (.slice A3 (rmR h id).length c3) (rmR h id))=>dpush_any A3 (rmR h id).length c3 (rmR h id) ⟨dl,id⟩ W q)
  by_cases hx:exE l h id dl=0
  ·obtain ⟨-,k',hk',hka',-,hH',hL'⟩:=exE_at hx
   obtain rfl:k=k':=by rw [←hka,←hka']
   rw [←hH',←hxe,hx] at HPU
   have HP:=Lh (fun p W (q:VaA w p A c l A2 c2 h W)=>lplace_any A l.length c l id W q.el t.asc (by have:=t.len;omega))
   unfold PlR at HP
   rw [hka] at HP
   have HCL:=Lh (fun p W (q:VaA w p A c l A2 c2 h W)=>eclone_any A l.length c l W q.el (by have:=t.len;omega))
   rw [hx,hL',lg_get hk]
   have HLS:=Lh (show (l.set k ((lg l k).till dl)).length=l.length from List.length_set)
   generalize exH l h id dl=K at*
   generalize rmR h id=K0 at*
   generalize kHas Le.id l id=O at*
   have HTE:=Lh (fun (W:World) (q cap:Nat) (hr:ERow W q l.length (lg l)) (hc:l.length≤cap) (hm:cap≤maxLen)=>till_el hr rfl hk dl hc hm)
   generalize l.set k ((lg l k).till dl)=LS at*
   have hk' : (k:Int)<(l.length:Int):=by omega
   have HK0:=Lh (show 0<l.length by omega)
   clear he t hka hH hx hxe hka' hH' hL'
   go_enter Tryz.func99,Tryz.ntmps99
   obtain ⟨t0,t1,tl⟩:=H0.out.va.tb
   go_wp2_with fail
   clear t0 t1 tl
   obtain ⟨p,hp⟩:∃ p,p=w.heap.size:=⟨_,rfl⟩
   obtain ⟨r,hr⟩:∃ r,r=w.heap.size+1:=⟨_,rfl⟩
   rw [←hr,←hp] at H0 ⊢
   clear hp hr
   generalize ((w.alloc (.cells #[.slice A l.length c,.slice A2 h.length c2] 31)).alloc (.cells #[.slice none 0 0,.slice none 0 0] 31))=w1 at*
   refine (HRM.out _ _ H0.out.va).mono ?_
   rintro e w2 ⟨A3,c3,rfl,hnw,hl,hb⟩
   have H1:=Lh (H0.out.below hb)
   have HK:=Lh hl
   clear hb hnw hl
   go_wp2_with fail
   refine (HPU.out _ _ _ HK.out).mono ?_
   rintro e w3 ⟨A5,c5,rfl,hnw,hl,hb⟩
   have H2:=Lh (H1.out.below hb)
   have HNW:=Lh (And.intro hnw (And.intro H1.out.rt.lt H1.out.va.bel.size))
   have HK:=Lh hl
   clear hb hnw hl
   obtain ⟨t0,t1,tl⟩:=H2.out.va.tb
   go_wp2_with fail
   clear t0 t1 tl
   refine (HP.out _ _ H2.out.va).mono ?_
   rintro e w4 ⟨rfl,hb⟩
   have H3:=Lh (H2.out.below hb)
   have HK:=Lh (HK.out.below hb)
   have HSZ:=Lh hb.size
   clear hb
   obtain ⟨t0,t1,tl⟩:=H3.out.va.tb
   go_wp2_with fail
   clear t0 t1 tl
   refine (HCL.out _ _ H3.out.va).mono ?_
   rintro e w5 ⟨v,rfl,ho,hb⟩
   obtain ⟨q,cap,cur,rfl,hq,hrw,hlc,hmc,-,-⟩:=Rw.of_own ho HK0.out
   have H4:=Lh (H3.out.below hb)
   have HK:=Lh (HK.out.below (hb.mono HSZ.out))
   have HRW:=Lh (ERow.of_own ho)
   have HQ:=Lh (And.intro hq (And.intro hlc hmc))
   have HQR:=Lh (show r<q from Nat.lt_of_lt_of_le H3.out.rt.lt hq)
   clear hb ho hrw hq
   obtain ⟨r0,r1,f0,f1,rl⟩:=H4.out.rt
   obtain ⟨c0,c1,c2',c3',c4',c5',c6',c7⟩:=HRW.out.c8 hk
   have g7:=HRW.out.2.2 (k*8+7)
   have hrq:¬r=q:=by have:=HQR.out;omega
   have hqr:¬q=r:=by have:=HQR.out;omega
   clear c0 c1 c2' c3' c4' c5' c6'
   have HEL:=Lh (HTE.out _ _ _ HRW.out HQ.out.2.1 HQ.out.2.2)
   have HKL:=Lh (((HK.out.setCell (p:=⟨q,k*8+7,none⟩) (by have:=HSZ.out;have:=HQ.out.1;show _≤q;omega) (.int .i64 dl)).set2 (r:=r) (v:=.slice (some ⟨q,0,none⟩) l.length cap) (v2:=.slice A5 K.length c5) HNW.out.1 HNW.out.2.1).more (show w3.heap.size≤(set2 (w5.setCell ⟨q,k*8+7,none⟩ (.int .i64 dl)) r (.slice (some ⟨q,0,none⟩) l.length cap) (.slice A5 K.length c5)).heap.size by have:=HSZ.out;have:=HQ.out.1;have:=HRW.out.1;simp;omega))
   have HF:=Lh (show TE w LS K 0 (.returned (.tuple #[.agg #[.slice (some ⟨q,0,none⟩) l.length cap,.slice A5 K.length c5],.int .i64 0])) (set2 (w5.setCell ⟨q,k*8+7,none⟩ (.int .i64 dl)) r (.slice (some ⟨q,0,none⟩) l.length cap) (.slice A5 K.length c5)) from
    ⟨some ⟨q,0,none⟩,cap,A5,c5,by rw [HLS.out],nw_some (by have:=H3.out.va.bel.size;have:=HQ.out.1;omega),nw_low HNW.out.1 HNW.out.2.2,by rw [HLS.out];exact (HEL.out.set2 (lo:=w4.heap.size) (nw_some HQ.out.1) H3.out.rt.lt).more (by simp),HKL.out,set2_below (H4.out.va.bel.setCell (p:=⟨q,k*8+7,none⟩) (by have:=H3.out.va.bel.size;have:=HQ.out.1;show _≤q;omega) _) (by have:=H4.out.ne;omega)⟩)
   go_wp2
   exact bodyPost_ret (v:=.tuple #[.agg #[.slice (some ⟨q,0,none⟩) l.length cap,.slice A5 K.length c5],.int .i64 0]) (by simp only [results,Tryz.results99];go_simp <;> rfl) rfl HF.out
  ·have HN:=Lh (exE_ne hx)
   have hne:(exE l h id dl != 0)=true:=bne_iff_ne.2 hx
   rw [←hxe] at HPU
   rw [HN.out.1,HN.out.2]
   generalize puR (rmR h id) ⟨dl,id⟩=K at*
   generalize rmR h id=K0 at*
   generalize exE l h id dl=x at*
   clear he t hka hH hx hxe HN
   go_enter Tryz.func99,Tryz.ntmps99
   obtain ⟨t0,t1,tl⟩:=H0.out.va.tb
   go_wp2_with fail
   clear t0 t1 tl
   obtain ⟨p,hp⟩:∃ p,p=w.heap.size:=⟨_,rfl⟩
   obtain ⟨r,hr⟩:∃ r,r=w.heap.size+1:=⟨_,rfl⟩
   rw [←hr,←hp] at H0 ⊢
   clear hp hr
   generalize ((w.alloc (.cells #[.slice A l.length c,.slice A2 h.length c2] 31)).alloc (.cells #[.slice none 0 0,.slice none 0 0] 31))=w1 at*
   refine (HRM.out _ _ H0.out.va).mono ?_
   rintro e w2 ⟨A3,c3,rfl,hnw,hl,hb⟩
   have H1:=Lh (H0.out.below hb)
   have HK:=Lh hl
   clear hb hnw hl
   go_wp2_with fail
   refine (HPU.out _ _ _ HK.out).mono ?_
   rintro e w3 ⟨A5,c5,rfl,hnw,hl,hb⟩
   have H2:=Lh (H1.out.below hb)
   clear hb hnw hl
   obtain ⟨r0,r1,f0,f1,rl⟩:=H2.out.rt
   have HB:=Lh (show Below w.heap.size w (set2 w3 r (.slice none 0 0) (.slice none 0 0)) from set2_below H2.out.va.bel (by have:=H2.out.ne;omega))
   go_wp2
   exact bodyPost_ret (v:=.tuple #[.agg #[.slice none 0 0,.slice none 0 0],.int .i64 x]) (by simp only [results,Tryz.results99];go_simp <;> rfl) rfl (te_nil rfl rfl rfl HB.out)
 ·have hx:=exE_rl (dl:=dl) he
  have HN:=Lh (exE_ne (l:=l) (h:=h) (id:=id) (dl:=dl) (by rw [hx];exact he))
  have hne:(rlE l h id != 0)=true:=bne_iff_ne.2 he
  rw [(rlE_ne he).1] at HRM
  rw [HN.out.1,HN.out.2,hx]
  generalize rlE l h id=x at*
  clear he hx HN
  go_enter Tryz.func99,Tryz.ntmps99
  obtain ⟨t0,t1,tl⟩:=H0.out.va.tb
  go_wp2_with fail
  clear t0 t1 tl
  obtain ⟨p,hp⟩:∃ p,p=w.heap.size:=⟨_,rfl⟩
  obtain ⟨r,hr⟩:∃ r,r=w.heap.size+1:=⟨_,rfl⟩
  rw [←hr,←hp] at H0 ⊢
  clear hp hr
  generalize ((w.alloc (.cells #[.slice A l.length c,.slice A2 h.length c2] 31)).alloc (.cells #[.slice none 0 0,.slice none 0 0] 31))=w1 at*
  refine (HRM.out _ _ H0.out.va).mono ?_
  rintro e w2 ⟨A3,c3,rfl,hnw,hl,hb⟩
  have H2:=Lh (H0.out.below hb)
  clear hb hnw hl
  obtain ⟨r0,r1,f0,f1,rl⟩:=H2.out.rt
  have HB:=Lh (show Below w.heap.size w (set2 w2 r (.slice none 0 0) (.slice none 0 0)) from set2_below H2.out.va.bel (by have:=H2.out.ne;omega))
  go_wp2
  exact bodyPost_ret (v:=.tuple #[.agg #[.slice none 0 0,.slice none 0 0],.int .i64 x]) (by simp only [results,Tryz.results99];go_simp <;> rfl) rfl (te_nil rfl rfl rfl HB.out)
end Go.Proofs.YtdobenkkkkaipaaGreat
