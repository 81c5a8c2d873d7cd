/- What is proved here: shard.New by a contract; shard.Put by a contract; Shp; Deliver of message and its reference, each by one contract for all arguments; Shq. -/
import Derived.Test.YtncgbldcjfbknaaGreatJ19
import Derived.Test.YtncgbldcjfbknaaGreatJ21
namespace Go.Proofs.YtncgbldcjfbknaaGreat
open Go.RowKit
set_option linter.unusedVariables false
noncomputable def neE (k lo hi:Int):Int:=if nwE k≠0 then nwE k else if spB lo hi=true then 0 else 1
noncomputable def neS (k lo hi:Int):Sh:=if neE k lo hi=0 then ⟨true,lo,hi,nwC k,0,0,[],[]⟩ else zS
abbrev z8 (W:World) (r:Nat):World:=((((((((W.setCell ⟨r,0,none⟩ (.bool false)).setCell ⟨r,1,none⟩ (.int .i64 0)).setCell ⟨r,2,none⟩ (.int .i64 0)).setCell ⟨r,3,none⟩ (.slice none 0 0)).setCell ⟨r,4,none⟩ (.int .i64 0)).setCell ⟨r,5,none⟩ (.int .i64 0)).setCell ⟨r,6,none⟩ (.slice none 0 0)).setCell ⟨r,7,none⟩ (.slice none 0 0))
theorem se_zero {w w' : World} {x:Int} {r:Nat} (hr:w.heap.size≤r) (hb:Below w.heap.size w w'):SE w zS x (.returned (.tuple #[.agg #[.bool false,.int .i64 0,.int .i64 0,.slice none 0 0,.int .i64 0,.int .i64 0,.slice none 0 0,.slice none 0 0],.int .i64 x])) (z8 w' r):=
 ⟨zX,rfl,zX_nw _,SR.zero,set8s_below hr hb zS zX⟩
theorem se_zeroA {w w' : World} {x:Int} {r:Nat} (hr:w.heap.size≤r) (hb:Below w.heap.size w w') (o:Obj):SE w zS x (.returned (.tuple #[.agg #[.bool false,.int .i64 0,.int .i64 0,.slice none 0 0,.int .i64 0,.int .i64 0,.slice none 0 0,.slice none 0 0],.int .i64 x])) ((z8 w' r).alloc o):=
 ⟨zX,rfl,zX_nw _,SR.zero,bal (set8s_below hr hb zS zX) o⟩
set_option maxHeartbeats 4000000 in
set_option maxRecDepth 20000 in
theorem snew_any (k lo hi:Int) (w:World) :
  Calls Tryz.prog 31 #[.int .i64 k,.int .i64 lo,.int .i64 hi] w (SE w (neS k lo hi) (neE k lo hi)):=by
 have R0:=Lh (SB8.zero w 33)
 have B0:=Lh ((Below.refl w.heap.size w).alloc (Nat.le_refl _) (.cells #[.bool false,.int .i64 0,.int .i64 0,.slice none 0 0,.int .i64 0,.int .i64 0,.slice none 0 0,.slice none 0 0] 33))
 have HN:=Lh (fun W=>gnew_any k W)
 have HSP:=Lh (fun W=>sspan_any lo hi W)
 go_enter Tryz.func31,Tryz.ntmps31
 go_wp2_with fail
 obtain ⟨r,hr⟩:∃ r,r=w.heap.size:=⟨_,rfl⟩
 have HRW:=Lh (show w.heap.size≤r by omega)
 rw [←hr]
 rw [←hr] at R0
 clear hr
 generalize w.alloc (.cells #[.bool false,.int .i64 0,.int .i64 0,.slice none 0 0,.int .i64 0,.int .i64 0,.slice none 0 0,.slice none 0 0] 33)=w1 at*
 refine (HN.out _).mono ?_
 rintro e w2 ⟨A,c,rfl,hnw,hl,hb⟩
 have B2:=Lh (btr B0.out hb)
 have R2:=Lh (R0.out.up hb)
 have L2:=Lh hl
 have N2:=Lh (nw_low hnw (show r+1≤_ from R0.out.lt))
 have HRL:=Lh (show r<w2.heap.size from Nat.lt_of_lt_of_le R0.out.lt hb.size)
 clear hb hl hnw
 by_cases h1:nwE k=0
 ·have HX1:=Lh h1
  rw [h1]
  clear h1
  have hrl:=HRL.out
  go_wp2_with fail
  refine (HSP.out _).mono ?_
  rintro e w3 ⟨rfl,rfl⟩
  obtain ⟨r0,r1,r2,r3,r4,r5,r6,r7,rl⟩:=R2.out.facts
  obtain ⟨f0,f1,f2,f3,f4,f5,f6,f7⟩:=R2.out.free
  cases h2:spB lo hi with
  | true=>
   have hE:neE k lo hi=0:=by unfold neE;rw [if_neg (fun g=>g HX1.out),if_pos h2]
   have hS:neS k lo hi=⟨true,lo,hi,nwC k,0,0,[],[]⟩:=if_pos hE
   have HF:=Lh (show SE w (neS k lo hi) (neE k lo hi) (.returned (.tuple #[.agg #[.bool true,.int .i64 lo,.int .i64 hi,.slice A (nwC k).length c,.int .i64 0,.int .i64 0,.slice none 0 0,.slice none 0 0],.int .i64 0])) (((((((((w2.setCell ⟨r,0,none⟩ (.bool true)).setCell ⟨r,1,none⟩ (.int .i64 lo)).setCell ⟨r,2,none⟩ (.int .i64 hi)).setCell ⟨r,3,none⟩ (.slice A (nwC k).length c)).setCell ⟨r,4,none⟩ (.int .i64 0)).setCell ⟨r,5,none⟩ (.int .i64 0)).setCell ⟨r,6,none⟩ (.slice none 0 0)).setCell ⟨r,7,none⟩ (.slice none 0 0)).alloc (.cells #[.slice A (nwC k).length c,.int .i64 0,.int .i64 0] 27)) from by
    rw [hE,hS]
    exact ⟨⟨A,c,none,0,none,0⟩,rfl,⟨nw_low N2.out (by have:=HRW.out;omega),nw_none,nw_none⟩,(SR.sets (S:=⟨true,lo,hi,nwC k,0,0,[],[]⟩) (D:=⟨A,c,none,0,none,0⟩) ⟨offb_nw N2.out (Nat.lt_succ_self r),offb_none,offb_none⟩ (Sh.l8 ⟨true,lo,hi,nwC k,0,0,[],[]⟩ ⟨A,c,none,0,none,0⟩) 0 w2 ⟨L2.out,El.nil,Dl.nil⟩).up ((Below.refl _ _).alloc (Nat.le_refl _) _),bal (set8s_below HRW.out B2.out ⟨true,lo,hi,nwC k,0,0,[],[]⟩ ⟨A,c,none,0,none,0⟩) _⟩)
   clear hE hS
   go_wp2
   exact bodyPost_ret (v:=.tuple #[.agg #[.bool true,.int .i64 lo,.int .i64 hi,.slice A (nwC k).length c,.int .i64 0,.int .i64 0,.slice none 0 0,.slice none 0 0],.int .i64 0]) (by simp only [results,Tryz.results31];go_simp <;> rfl) rfl HF.out
  | false=>
   have hE:neE k lo hi=1:=by unfold neE;rw [if_neg (fun g=>g HX1.out),if_neg (by simp [h2])]
   have hS:neS k lo hi=zS:=if_neg (by rw [hE];decide)
   have HF:=Lh (show SE w (neS k lo hi) (neE k lo hi) (.returned (.tuple #[.agg #[.bool false,.int .i64 0,.int .i64 0,.slice none 0 0,.int .i64 0,.int .i64 0,.slice none 0 0,.slice none 0 0],.int .i64 1])) ((z8 w2 r).alloc (.cells #[.slice A (nwC k).length c,.int .i64 0,.int .i64 0] 27)) from by
    rw [hE,hS]
    exact se_zeroA HRW.out B2.out _)
   clear hE hS
   go_wp2
   exact bodyPost_ret (v:=.tuple #[.agg #[.bool false,.int .i64 0,.int .i64 0,.slice none 0 0,.int .i64 0,.int .i64 0,.slice none 0 0,.slice none 0 0],.int .i64 1]) (by simp only [results,Tryz.results31];go_simp <;> rfl) rfl HF.out
 ·have hE:neE k lo hi=nwE k:=if_pos h1
  have hS:neS k lo hi=zS:=if_neg (by rw [hE];exact h1)
  have hne:(nwE k != 0)=true:=bne_iff_ne.2 h1
  obtain ⟨r0,r1,r2,r3,r4,r5,r6,r7,rl⟩:=R2.out.facts
  obtain ⟨f0,f1,f2,f3,f4,f5,f6,f7⟩:=R2.out.free
  have HF:=Lh (show SE w (neS k lo hi) (neE k lo hi) (.returned (.tuple #[.agg #[.bool false,.int .i64 0,.int .i64 0,.slice none 0 0,.int .i64 0,.int .i64 0,.slice none 0 0,.slice none 0 0],.int .i64 (nwE k)])) ((z8 w2 r).alloc (.cells #[.slice A (nwC k).length c,.int .i64 0,.int .i64 0] 27)) from by
   rw [hE,hS]
   exact se_zeroA HRW.out B2.out _)
  clear hE hS h1
  have hrl:=HRL.out
  generalize nwE k=x at*
  go_wp2
  exact bodyPost_ret (v:=.tuple #[.agg #[.bool false,.int .i64 0,.int .i64 0,.slice none 0 0,.int .i64 0,.int .i64 0,.slice none 0 0,.slice none 0 0],.int .i64 x]) (by simp only [results,Tryz.results31];go_simp <;> rfl) rfl HF.out
noncomputable def spuR (S:Sh) (M:Msg):Sh:=if puS S M=0 then ⟨S.lv,S.lo,S.hi,pbC S.cs S.hd S.sz M,ifE (puE S.cs S.hd S.sz M) S.hd,ifE (puE S.cs S.hd S.sz M) (S.sz+1),S.l,S.h⟩ else zS
theorem MBx.put_far {W:World} {p q:Nat} {M:Msg} (h:MBx W q M) (hq:q≠p) (S:Sh) (D:Sx):MBx (set8s W p S D) q M:=
 h.keep (fun o=>set8s_far (q:=⟨q,o,none⟩) hq) (fun o=>by rw [set8s_eq,World.frozen?_setCells]) (by rw [set8s_size];exact Nat.le_refl _)
theorem SB8.put_far {W:World} {p q:Nat} {T:Sh} {E:Sx} (h:SB8 W q T E) (hq:q≠p) (S:Sh) (D:Sx):SB8 (set8s W p S D) q T E:=
 h.keep (fun o=>set8s_far (q:=⟨q,o,none⟩) hq) (fun o=>by rw [set8s_eq,World.frozen?_setCells]) (by rw [set8s_size];exact Nat.le_refl _)
structure SmrAt (w:World) (p q r:Nat) (S:Sh) (D:Sx) (M:Msg) (W:World):Prop where
 sm:SmAt w p q S D M W
 rs:SB8 W r zS zX
 ne:q<r
theorem SmrAt.below {w W W' : World} {p q r:Nat} {S:Sh} {D:Sx} {M:Msg} (h:SmrAt w p q r S D M W) (hb:Below W.heap.size W W'):SmrAt w p q r S D M W':=⟨h.sm.below hb,h.rs.up hb,h.ne⟩
theorem SmrAt.put {w W:World} {p q r:Nat} {S T:Sh} {D E:Sx} {M:Msg} (h:SmrAt w p q r S D M W) (hr:SR W W.heap.size T E) (ho:SOff T E p):SmrAt w p q r T E M (set8s W p T E):=
 ⟨⟨h.sm.sa.put hr ho,h.sm.mb.put_far (by have:=h.sm.lt;omega) T E,h.sm.lt⟩,h.rs.put_far (by have:=h.sm.lt;have:=h.ne;omega) T E,h.ne⟩
theorem SmrAt.start (w:World) (S:Sh) (D:Sx) (M:Msg) (t u v:TypeId) (hs:SR w w.heap.size S D):SmrAt w w.heap.size (w.heap.size+1) (w.heap.size+1+1) S D M (((w.alloc (.cells #[.bool S.lv,.int .i64 S.lo,.int .i64 S.hi,.slice D.A S.cs.length D.c,.int .i64 S.hd,.int .i64 S.sz,.slice D.A2 S.l.length D.c2,.slice D.A3 S.h.length D.c3] t)).alloc (.cells #[.int .i64 M.id,.int .i64 M.rt,.int .i64 M.ep,.int .i64 M.ct,.int .i64 M.gn,.int .i64 M.st,.string M.bd] u)).alloc (.cells #[.bool false,.int .i64 0,.int .i64 0,.slice none 0 0,.int .i64 0,.int .i64 0,.slice none 0 0,.slice none 0 0] v)):=by
 have h:=SB8.zero ((w.alloc (.cells #[.bool S.lv,.int .i64 S.lo,.int .i64 S.hi,.slice D.A S.cs.length D.c,.int .i64 S.hd,.int .i64 S.sz,.slice D.A2 S.l.length D.c2,.slice D.A3 S.h.length D.c3] t)).alloc (.cells #[.int .i64 M.id,.int .i64 M.rt,.int .i64 M.ep,.int .i64 M.ct,.int .i64 M.gn,.int .i64 M.st,.string M.bd] u)) v
 rw [show ((w.alloc (.cells #[.bool S.lv,.int .i64 S.lo,.int .i64 S.hi,.slice D.A S.cs.length D.c,.int .i64 S.hd,.int .i64 S.sz,.slice D.A2 S.l.length D.c2,.slice D.A3 S.h.length D.c3] t)).alloc (.cells #[.int .i64 M.id,.int .i64 M.rt,.int .i64 M.ep,.int .i64 M.ct,.int .i64 M.gn,.int .i64 M.st,.string M.bd] u)).heap.size=w.heap.size+1+1 by simp] at h
 exact ⟨(SmAt.start w S D M t u hs).alloc _,h,Nat.lt_succ_self _⟩
theorem SB8.all {W:World} {r:Nat} {T:Sh} {E:Sx} (h:SB8 W r T E):(W.cell? ⟨r,0,none⟩=some (.bool T.lv)∧W.cell? ⟨r,1,none⟩=some (.int .i64 T.lo)∧W.cell? ⟨r,2,none⟩=some (.int .i64 T.hi)∧W.cell? ⟨r,3,none⟩=some (.slice E.A T.cs.length E.c)∧W.cell? ⟨r,4,none⟩=some (.int .i64 T.hd)∧W.cell? ⟨r,5,none⟩=some (.int .i64 T.sz)∧W.cell? ⟨r,6,none⟩=some (.slice E.A2 T.l.length E.c2)∧W.cell? ⟨r,7,none⟩=some (.slice E.A3 T.h.length E.c3)∧r<W.heap.size)∧(W.frozen? ⟨r,0,none⟩=false∧W.frozen? ⟨r,1,none⟩=false∧W.frozen? ⟨r,2,none⟩=false∧W.frozen? ⟨r,3,none⟩=false∧W.frozen? ⟨r,4,none⟩=false∧W.frozen? ⟨r,5,none⟩=false∧W.frozen? ⟨r,6,none⟩=false∧W.frozen? ⟨r,7,none⟩=false):=⟨h.facts,h.free⟩
set_option maxHeartbeats 8000000 in
set_option maxRecDepth 20000 in
theorem sput_any (S:Sh) (D:Sx) (M:Msg) (w:World) (hs:SR w w.heap.size S D) :
  Calls Tryz.prog 32 #[sv S D,M.v] w (SE w (spuR S M) (puS S M)):=by
 have H0:=Lh (SmrAt.start w S D M 33 56 33 hs)
 have HV:=Lh (fun p D W (k:SAt w p S D W)=>sputerr_any S D M W k.sr)
 have HPB:=Lh (fun p D W (k:SAt w p S D W)=>pback_any D.A S.cs.length D.c S.cs S.hd S.sz M W k.sr.ls)
 clear hs
 go_enter Tryz.func32,Tryz.ntmps32
 obtain ⟨t0,t1,t2,t3,t4,t5,t6,t7,tl⟩:=H0.out.sm.sa.s8.facts
 obtain ⟨v0,v1,v2,v3,v4,v5,v6⟩:=H0.out.sm.mb.m7
 have vl:=H0.out.sm.mb.lt
 go_wp2_with fail
 clear t0 t1 t2 t3 t4 t5 t6 t7 tl v0 v1 v2 v3 v4 v5 v6 vl
 obtain ⟨p,hp⟩:∃ p,p=w.heap.size:=⟨_,rfl⟩
 obtain ⟨q,hq⟩:∃ q,q=w.heap.size+1:=⟨_,rfl⟩
 obtain ⟨r,hr⟩:∃ r,r=w.heap.size+1+1:=⟨_,rfl⟩
 rw [←hr,←hq,←hp]
 rw [←hr,←hq,←hp] at H0
 clear hp hq hr
 generalize (((w.alloc (.cells #[.bool S.lv,.int .i64 S.lo,.int .i64 S.hi,.slice D.A S.cs.length D.c,.int .i64 S.hd,.int .i64 S.sz,.slice D.A2 S.l.length D.c2,.slice D.A3 S.h.length D.c3] 33)).alloc (.cells #[.int .i64 M.id,.int .i64 M.rt,.int .i64 M.ep,.int .i64 M.ct,.int .i64 M.gn,.int .i64 M.st,.string M.bd] 56)).alloc (.cells #[.bool false,.int .i64 0,.int .i64 0,.slice none 0 0,.int .i64 0,.int .i64 0,.slice none 0 0,.slice none 0 0] 33))=w1 at*
 refine (HV.out _ _ _ H0.out.sm.sa).mono ?_
 rintro e w2 ⟨rfl,hb⟩
 have H1:=Lh (H0.out.below hb)
 clear hb
 have HNE:=Lh (show w.heap.size≤p∧p<q∧q<r from ⟨H1.out.sm.sa.old,H1.out.sm.lt,H1.out.ne⟩)
 by_cases h1:puS S M=0
 ·have HRR:=Lh (show spuR S M=⟨S.lv,S.lo,S.hi,pbC S.cs S.hd S.sz M,ifE (puE S.cs S.hd S.sz M) S.hd,ifE (puE S.cs S.hd S.sz M) (S.sz+1),S.l,S.h⟩ from if_pos h1)
  have HX0:exS S true=0:=by
   refine Decidable.by_contra fun h=>?_
   rw [puS_ex h] at h1
   exact h h1
  have HN:=Lh (ex_nums HX0)
  have HCL:=Lh (fun p D W (k:SAt w p S D W)=>sclone_any S D W k.sr HN.out.1 (by have:=HN.out;omega) (by have:=HN.out;omega) (by have:=HN.out;omega))
  have HX1:=Lh h1
  rw [h1]
  clear h1 HX0 HV
  generalize spuR S M=T at*
  generalize pbC S.cs S.hd S.sz M=cs at*
  generalize ifE (puE S.cs S.hd S.sz M) S.hd=hd at*
  generalize ifE (puE S.cs S.hd S.sz M) (S.sz+1)=sz at*
  generalize puE S.cs S.hd S.sz M=pe at*
  obtain ⟨t0,t1,t2,t3,t4,t5,t6,t7,tl⟩:=H1.out.sm.sa.s8.facts
  go_wp2_with fail
  clear t0 t1 t2 t3 t4 t5 t6 t7 tl
  refine (HCL.out _ _ _ H1.out.sm.sa).mono ?_
  rintro e w4 ⟨D4,rfl,hn4,hr4,hb⟩
  have H2:=Lh (H1.out.below hb)
  have H3:=Lh (show SmrAt w p q r S D4 M ((((((((w4.setCell ⟨p,0,none⟩ (.bool S.lv)).setCell ⟨p,1,none⟩ (.int .i64 S.lo)).setCell ⟨p,2,none⟩ (.int .i64 S.hi)).setCell ⟨p,3,none⟩ (.slice D4.A S.cs.length D4.c)).setCell ⟨p,4,none⟩ (.int .i64 S.hd)).setCell ⟨p,5,none⟩ (.int .i64 S.sz)).setCell ⟨p,6,none⟩ (.slice D4.A2 S.l.length D4.c2)).setCell ⟨p,7,none⟩ (.slice D4.A3 S.h.length D4.c3)) from H2.out.put hr4 (hn4.off H1.out.sm.sa.lt))
  have N4:=Lh (show D4.nw (r+1) from hn4.low H1.out.rs.lt)
  clear hn4 hr4 hb
  obtain ⟨⟨t0,t1,t2,t3,t4,t5,t6,t7,tl⟩,⟨f0,f1,f2,f3,f4,f5,f6,f7⟩⟩:=H2.out.sm.sa.s8.all
  obtain ⟨v0,v1,v2,v3,v4,v5,v6⟩:=H2.out.sm.mb.m7
  have vl:=H2.out.sm.mb.lt
  obtain ⟨hwp,hpq,hqr⟩:=HNE.out
  have hqp:¬q=p:=by omega
  have hpq' : ¬p=q:=by omega
  have hrp:¬r=p:=by omega
  have hpr:¬p=r:=by omega
  clear hwp hpq hqr
  go_wp2_with fail
  clear t0 t1 t2 t3 t4 t5 t6 t7 tl f0 f1 f2 f3 f4 f5 f6 f7 v0 v1 v2 v3 v4 v5 v6 vl
  generalize ((((((((w4.setCell ⟨p,0,none⟩ (.bool S.lv)).setCell ⟨p,1,none⟩ (.int .i64 S.lo)).setCell ⟨p,2,none⟩ (.int .i64 S.hi)).setCell ⟨p,3,none⟩ (.slice D4.A S.cs.length D4.c)).setCell ⟨p,4,none⟩ (.int .i64 S.hd)).setCell ⟨p,5,none⟩ (.int .i64 S.sz)).setCell ⟨p,6,none⟩ (.slice D4.A2 S.l.length D4.c2)).setCell ⟨p,7,none⟩ (.slice D4.A3 S.h.length D4.c3))=w5 at*
  refine (HPB.out _ _ _ H3.out.sm.sa).mono ?_
  rintro e w6 ⟨A6,c6,rfl,hn6,hl6,hb⟩
  have H4:=Lh (H3.out.below hb)
  have N6:=Lh (show Nw (r+1) A6 from nw_low hn6 H3.out.rs.lt)
  have H5:=Lh (H4.out.sm.sa.setRing hd sz hl6 (offb_nw hn6 H3.out.sm.sa.lt))
  clear hn6 hl6 hb
  have HF:=Lh (show SE w T (puS S M) (.returned (.tuple #[.agg #[.bool S.lv,.int .i64 S.lo,.int .i64 S.hi,.slice A6 cs.length c6,.int .i64 hd,.int .i64 sz,.slice D4.A2 S.l.length D4.c2,.slice D4.A3 S.h.length D4.c3],.int .i64 0])) (((((((((((w6.setCell ⟨p,3,none⟩ (.slice A6 cs.length c6)).setCell ⟨p,4,none⟩ (.int .i64 hd)).setCell ⟨p,5,none⟩ (.int .i64 sz)).setCell ⟨r,0,none⟩ (.bool S.lv)).setCell ⟨r,1,none⟩ (.int .i64 S.lo)).setCell ⟨r,2,none⟩ (.int .i64 S.hi)).setCell ⟨r,3,none⟩ (.slice A6 cs.length c6)).setCell ⟨r,4,none⟩ (.int .i64 hd)).setCell ⟨r,5,none⟩ (.int .i64 sz)).setCell ⟨r,6,none⟩ (.slice D4.A2 S.l.length D4.c2)).setCell ⟨r,7,none⟩ (.slice D4.A3 S.h.length D4.c3)) from by
   rw [HX1.out,HRR.out]
   have hne:=HNE.out
   exact ⟨⟨A6,c6,D4.A2,D4.c2,D4.A3,D4.c3⟩,rfl,⟨nw_low N6.out (by omega),nw_low N4.out.n2 (by omega),nw_low N4.out.n3 (by omega)⟩,SR.sets (S:=⟨S.lv,S.lo,S.hi,cs,hd,sz,S.l,S.h⟩) (D:=⟨A6,c6,D4.A2,D4.c2,D4.A3,D4.c3⟩) ⟨offb_nw N6.out (Nat.lt_succ_self r),offb_nw N4.out.n2 (Nat.lt_succ_self r),offb_nw N4.out.n3 (Nat.lt_succ_self r)⟩ (Sh.l8 ⟨S.lv,S.lo,S.hi,cs,hd,sz,S.l,S.h⟩ ⟨A6,c6,D4.A2,D4.c2,D4.A3,D4.c3⟩) 0 _ H5.out.sr,set8s_below (show w.heap.size≤r by omega) H5.out.bel ⟨S.lv,S.lo,S.hi,cs,hd,sz,S.l,S.h⟩ ⟨A6,c6,D4.A2,D4.c2,D4.A3,D4.c3⟩⟩)
  obtain ⟨⟨t0,t1,t2,t3,t4,t5,t6,t7,tl⟩,⟨f0,f1,f2,f3,f4,f5,f6,f7⟩⟩:=H4.out.sm.sa.s8.all
  obtain ⟨⟨r0,r1,r2,r3,r4,r5,r6,r7,rl⟩,⟨g0,g1,g2,g3,g4,g5,g6,g7⟩⟩:=H4.out.rs.all
  go_wp2
  exact bodyPost_ret (v:=.tuple #[.agg #[.bool S.lv,.int .i64 S.lo,.int .i64 S.hi,.slice A6 cs.length c6,.int .i64 hd,.int .i64 sz,.slice D4.A2 S.l.length D4.c2,.slice D4.A3 S.h.length D4.c3],.int .i64 0]) (by simp only [results,Tryz.results32];go_simp <;> rfl) rfl HF.out
 ·have HRR:=Lh (show spuR S M=zS from if_neg h1)
  have hne:(puS S M != 0)=true:=bne_iff_ne.2 h1
  clear h1 HV HPB
  generalize spuR S M=T at*
  generalize puS S M=x at*
  have HF:=Lh (show SE w T x (.returned (.tuple #[.agg #[.bool false,.int .i64 0,.int .i64 0,.slice none 0 0,.int .i64 0,.int .i64 0,.slice none 0 0,.slice none 0 0],.int .i64 x])) (z8 w2 r) from by
   rw [HRR.out]
   exact se_zero (by have:=HNE.out;omega) H1.out.sm.sa.bel)
  obtain ⟨⟨r0,r1,r2,r3,r4,r5,r6,r7,rl⟩,⟨g0,g1,g2,g3,g4,g5,g6,g7⟩⟩:=H1.out.rs.all
  go_wp2
  exact bodyPost_ret (v:=.tuple #[.agg #[.bool false,.int .i64 0,.int .i64 0,.slice none 0 0,.int .i64 0,.int .i64 0,.slice none 0 0,.slice none 0 0],.int .i64 x]) (by simp only [results,Tryz.results32];go_simp <;> rfl) rfl HF.out
end Go.Proofs.YtncgbldcjfbknaaGreat
/- Plain: what pushes, releases, grants and extensions make of a valid live shard. -/
namespace Go.Proofs.YtncgbldcjfbknaaGreat
open Go.RowKit
set_option linter.unusedVariables false
theorem gd_perm {l m:List Msg} (p:l.Perm m) (hg:Gd l):Gd m:=
 ⟨fun M hM=>hg.1 M (p.mem_iff.2 hM),(dup_pair m).2 ((p.pairwise_iff (fun h e=>h e.symm)).1 ((dup_pair l).1 hg.2))⟩
theorem gd_cons {M:Msg} {l:List Msg}:Gd (M::l)↔vf M=0∧Gd l∧∀ N∈l,N.id≠M.id:=by
 constructor
 ·intro h
  have p:=(dup_pair _).1 h.2
  rw [List.pairwise_cons] at p
  exact ⟨h.1 M (by simp),gd_sub (List.sublist_cons_self M l) h,fun N hN e=>p.1 N hN e.symm⟩
 ·rintro ⟨h1,h2,h3⟩
  exact gd_front h2 h1 h3
def Vs.push (V:Vs) (M:Msg):Vs:=⟨V.lo,V.hi,V.n,V.hd,V.L++[M],V.l,V.h⟩
def Vs.front (V:Vs) (M:Msg):Vs:=⟨V.lo,V.hi,V.n,(V.hd+(V.n - 1)) % V.n,M::V.L,V.l,V.h⟩
noncomputable def Vs.rel (V:Vs) (id:Int):Vs:=⟨V.lo,V.hi,V.n,V.hd,V.L,rlL V.l V.h id,rlH V.l V.h id⟩
noncomputable def Vs.gr (V:Vs) (x:Le):Vs:=⟨V.lo,V.hi,V.n,V.hd,V.L,grL V.l V.h x,grH V.l V.h x⟩
structure Fits (V:Vs) (M:Msg):Prop where
 vf:vf M=0
 own:V.lo≤M.rt∧M.rt≤V.hi
 room:V.L.length+V.l.length<V.n
 new:∀ N∈V.al,N.id≠M.id
section
variable {V:Vs} {M:Msg} {x:Le} {id dl:Int}
theorem push_al (V:Vs) (M:Msg):(V.push M).al.Perm (M::V.al):=by
 show ((V.L++[M])++V.l.map Le.m).Perm (M::(V.L++V.l.map Le.m))
 rw [List.append_assoc]
 exact List.perm_middle
theorem Vs.Ok.push (k:V.Ok) (f:Fits V M):(V.push M).Ok:=by
 refine ⟨k.n1,k.n2,k.hh,k.tb,k.sp,?_,gd_perm (push_al V M).symm (gd_cons.2 ⟨f.vf,k.gd,f.new⟩),fun N hN=>?_⟩
 ·show (V.L++[M]).length+V.l.length≤V.n
  have:=f.room
  simp;omega
 ·rcases List.mem_cons.1 ((push_al V M).mem_iff.1 hN) with e | e
  ·rw [e];exact f.own
  ·exact k.own N e
theorem Vs.Ok.pb (k:V.Ok) (f:Fits V M):puE (fil V.n V.hd V.L) (V.hd:Int) (V.L.length:Int) M=0∧pbC (fil V.n V.hd V.L) (V.hd:Int) (V.L.length:Int) M=fil V.n V.hd (V.L++[M]):=by
 have hl:V.L.length<V.n:=by have:=f.room;omega
 have hi:∀ N∈V.L,N.id≠M.id:=fun N hN=>f.new N (List.mem_append_left _ hN)
 exact ⟨puE_fil k.n1 k.n2 k.hh hl k.gL f.vf hi,pbC_fil k.n1 k.n2 k.hh hl k.gL f.vf hi⟩
theorem map_m_perm {l m:List Le} (p:l.Perm m):(l.map Le.m).Perm (m.map Le.m):=p.map _
theorem Vs.Ok.gr (k:V.Ok) (f:Fits V x.m) (ok:leOk x):grE V.l V.h x=0∧(V.gr x).Ok∧(V.gr x).al.Perm (x.m::V.al)∧(V.gr x).l=kIns Le.id V.l x:=by
 have hl:V.l.length<12:=by have:=f.room;have:=k.n2;omega
 have hf:kFi Le.id V.l x.id<0:=by
  rw [kFi_none fun b hb e=>?_];decide
  exact f.new b.m (List.mem_append_right _ (List.mem_map.2 ⟨b,hb,rfl⟩)) e
 have e:grE V.l V.h x=0:=by
  obtain ⟨h2,h3,h4,h5⟩:=ok
  unfold grE
  rw [if_neg (by simpa using (tbV_iff V.l V.h).2 k.tb),if_neg (by simpa using h2),if_neg h3,if_neg (by omega),if_neg (by omega),if_neg (by omega)]
 have eL:grL V.l V.h x=kIns Le.id V.l x:=if_pos e
 have eH:grH V.l V.h x=hpu V.h x.du:=if_pos e
 have t:=k.tb.grant ok ok.snd hl hf
 have p:(V.gr x).al.Perm (x.m::V.al):=by
  show (V.L++(grL V.l V.h x).map Le.m).Perm (x.m::(V.L++V.l.map Le.m))
  rw [eL]
  exact (List.Perm.append_left V.L (map_m_perm (kIns_perm V.l x))).trans List.perm_middle
 refine ⟨e,⟨k.n1,k.n2,k.hh,by show TbOk (grL V.l V.h x) (grH V.l V.h x);rw [eL,eH];exact t,k.sp,?_,gd_perm p.symm (gd_cons.2 ⟨f.vf,k.gd,f.new⟩),fun N hN=>?_⟩,p,eL⟩
 ·show V.L.length+(grL V.l V.h x).length≤V.n
  rw [eL,kIns_len];have:=f.room;omega
 ·rcases List.mem_cons.1 (p.mem_iff.1 hN) with e | e
  ·rw [e];exact f.own
  ·exact k.own N e
end
end Go.Proofs.YtncgbldcjfbknaaGreat
namespace Go.Proofs.YtncgbldcjfbknaaGreat
open Go.RowKit
set_option linter.unusedVariables false
def dlE (M:Msg):Int:=if vf M=0 then (if M.gn=65536 then 6 else if M.ct=8 then 7 else 0) else vf M
def dlM (M:Msg):Msg:=if dlE M=0 then ⟨M.id,M.rt,M.ep,M.ct+1,M.gn+1,M.st,M.bd⟩ else zM
theorem dl_not (M:Msg) (e:Int) (h:dlE M=e) (h0:e≠0):dlM M=zM:=by unfold dlM;rw [if_neg (by omega)]
set_option maxHeartbeats 2000000 in
theorem deliver_any (M:Msg) (w:World):Calls Tryz.prog 48 #[M.v] w fun e w'=>e=.returned (.tuple #[(dlM M).v,.int .i64 (dlE M)])∧Below w.heap.size w w':=by
 have HC:=Lh (fun w=>validate_any M w)
 by_cases h:vf M=0
 ·rw [h] at HC
  by_cases hg:M.gn=65536
  ·have he:dlE M=6:=by unfold dlE;rw [if_pos h,if_pos hg]
   have HF:=Lh (dl_not M 6 he (by omega))
   have HE:=Lh he
   have hg' : (M.gn==65536)=true:=beq_iff_eq.2 hg
   clear h he hg
   go_enter Tryz.func48,Tryz.ntmps48
   go_wp2_with fail
   refine (HC.out _).mono ?_
   rintro e w1 ⟨rfl,hb⟩
   obtain ⟨hc,hf⟩:=bcell hb
   have hz:=hb.size
   simp at hz
   have hlt:w.heap.size<w.heap.size+1+1:=by omega
   have hz0:w.heap.size<w1.heap.size:=by omega
   have HB1:=Lh ((((Below.refl w.heap.size w).alloc (Nat.le_refl _) _).alloc (by simp) _).trans (hb.mono (by simp <;> omega)))
   clear hb
   go_wp2
   exact bodyPost_ret (v:=.tuple #[.agg #[.int .i64 0,.int .i64 0,.int .i64 0,.int .i64 0,.int .i64 0,.int .i64 0,.string ByteArray.empty],.int .i64 6]) (by simp only [results,Tryz.results48];go_simp <;> rfl) rfl ⟨by rw [HF.out,HE.out] <;> rfl,below7 HB1.out (by simp) _ _ _ _ _ _ _⟩
  ·have hg' : (M.gn==65536)=false:=beq_eq_false_iff_ne.2 hg
   by_cases hq:M.ct=8
   ·have he:dlE M=7:=by unfold dlE;rw [if_pos h,if_neg hg,if_pos hq]
    have HF:=Lh (dl_not M 7 he (by omega))
    have HE:=Lh he
    have hq' : (M.ct==8)=true:=beq_iff_eq.2 hq
    clear h he hg hq
    go_enter Tryz.func48,Tryz.ntmps48
    go_wp2_with fail
    refine (HC.out _).mono ?_
    rintro e w1 ⟨rfl,hb⟩
    obtain ⟨hc,hf⟩:=bcell hb
    have hz:=hb.size
    simp at hz
    have hlt:w.heap.size<w.heap.size+1+1:=by omega
    have hz0:w.heap.size<w1.heap.size:=by omega
    have HB1:=Lh ((((Below.refl w.heap.size w).alloc (Nat.le_refl _) _).alloc (by simp) _).trans (hb.mono (by simp <;> omega)))
    clear hb
    go_wp2
    exact bodyPost_ret (v:=.tuple #[.agg #[.int .i64 0,.int .i64 0,.int .i64 0,.int .i64 0,.int .i64 0,.int .i64 0,.string ByteArray.empty],.int .i64 7]) (by simp only [results,Tryz.results48];go_simp <;> rfl) rfl ⟨by rw [HF.out,HE.out] <;> rfl,below7 HB1.out (by simp) _ _ _ _ _ _ _⟩
   ·have he:dlE M=0:=by unfold dlE;rw [if_pos h,if_neg hg,if_neg hq]
    have HF:=Lh (show dlM M=⟨M.id,M.rt,M.ep,M.ct+1,M.gn+1,M.st,M.bd⟩ from if_pos he)
    have HE:=Lh he
    have hq' : (M.ct==8)=false:=beq_eq_false_iff_ne.2 hq
    obtain ⟨_,_,_,⟨q0,q1⟩,⟨g0,g1⟩,_,_⟩:=vf_ok h
    clear h he hg hq
    go_enter Tryz.func48,Tryz.ntmps48
    go_wp2_with fail
    refine (HC.out _).mono ?_
    rintro e w1 ⟨rfl,hb⟩
    obtain ⟨hc,hf⟩:=bcell hb
    have hz:=hb.size
    simp at hz
    have hlt:w.heap.size<w.heap.size+1+1:=by omega
    have hz0:w.heap.size<w1.heap.size:=by omega
    have HB1:=Lh ((((Below.refl w.heap.size w).alloc (Nat.le_refl _) _).alloc (by simp) _).trans (hb.mono (by simp <;> omega)))
    clear hb
    go_wp2
    exact bodyPost_ret (v:=.tuple #[Msg.v ⟨M.id,M.rt,M.ep,M.ct+1,M.gn+1,M.st,M.bd⟩,.int .i64 0]) (by simp only [results,Tryz.results48];go_simp <;> rfl) rfl ⟨by rw [HF.out,HE.out] <;> rfl,below7 ((HB1.out.setCell (by simp) _).setCell (by simp) _) (by simp) _ _ _ _ _ _ _⟩
 ·have he:dlE M=vf M:=if_neg h
  have HF:=Lh (dl_not M _ he h)
  have HE:=Lh he
  have hne:(vf M != 0)=true:=bne_iff_ne.2 h
  generalize vf M=k at*
  clear h he
  go_enter Tryz.func48,Tryz.ntmps48
  go_wp2_with fail
  refine (HC.out _).mono ?_
  rintro e w1 ⟨rfl,hb⟩
  obtain ⟨hc,hf⟩:=bcell hb
  have hz:=hb.size
  simp at hz
  have hlt:w.heap.size<w.heap.size+1+1:=by omega
  have hz0:w.heap.size<w1.heap.size:=by omega
  have HB1:=Lh ((((Below.refl w.heap.size w).alloc (Nat.le_refl _) _).alloc (by simp) _).trans (hb.mono (by simp <;> omega)))
  clear hb
  go_wp2
  exact bodyPost_ret (v:=.tuple #[.agg #[.int .i64 0,.int .i64 0,.int .i64 0,.int .i64 0,.int .i64 0,.int .i64 0,.string ByteArray.empty],.int .i64 k]) (by simp only [results,Tryz.results48];go_simp <;> rfl) rfl ⟨by rw [HF.out,HE.out] <;> rfl,below7 HB1.out (by simp) _ _ _ _ _ _ _⟩
set_option maxHeartbeats 2000000 in
theorem rdeliver_any (M:Msg) (w:World):Calls Tryz.prog 135 #[M.v] w fun e w'=>e=.returned (.tuple #[(dlM M).v,.int .i64 (dlE M)])∧Below w.heap.size w w':=by
 have HC:=Lh (fun w=>rvalidate_any M w)
 by_cases h:vf M=0
 ·rw [h] at HC
  by_cases hg:M.gn=65536
  ·have he:dlE M=6:=by unfold dlE;rw [if_pos h,if_pos hg]
   have HF:=Lh (dl_not M 6 he (by omega))
   have HE:=Lh he
   have hg' : (M.gn==65536)=true:=beq_iff_eq.2 hg
   clear h he hg
   go_enter Tryz.func135,Tryz.ntmps135
   go_wp2_with fail
   refine (HC.out _).mono ?_
   rintro e w1 ⟨rfl,hb⟩
   obtain ⟨hc,hf⟩:=bcell hb
   have hz:=hb.size
   simp at hz
   have hlt:w.heap.size<w.heap.size+1+1:=by omega
   have hz0:w.heap.size<w1.heap.size:=by omega
   have HB1:=Lh ((((Below.refl w.heap.size w).alloc (Nat.le_refl _) _).alloc (by simp) _).trans (hb.mono (by simp <;> omega)))
   clear hb
   go_wp2
   exact bodyPost_ret (v:=.tuple #[.agg #[.int .i64 0,.int .i64 0,.int .i64 0,.int .i64 0,.int .i64 0,.int .i64 0,.string ByteArray.empty],.int .i64 6]) (by simp only [results,Tryz.results135];go_simp <;> rfl) rfl ⟨by rw [HF.out,HE.out] <;> rfl,below7 HB1.out (by simp) _ _ _ _ _ _ _⟩
  ·have hg' : (M.gn==65536)=false:=beq_eq_false_iff_ne.2 hg
   by_cases hq:M.ct=8
   ·have he:dlE M=7:=by unfold dlE;rw [if_pos h,if_neg hg,if_pos hq]
    have HF:=Lh (dl_not M 7 he (by omega))
    have HE:=Lh he
    have hq' : (M.ct==8)=true:=beq_iff_eq.2 hq
    clear h he hg hq
    go_enter Tryz.func135,Tryz.ntmps135
    go_wp2_with fail
    refine (HC.out _).mono ?_
    rintro e w1 ⟨rfl,hb⟩
    obtain ⟨hc,hf⟩:=bcell hb
    have hz:=hb.size
    simp at hz
    have hlt:w.heap.size<w.heap.size+1+1:=by omega
    have hz0:w.heap.size<w1.heap.size:=by omega
    have HB1:=Lh ((((Below.refl w.heap.size w).alloc (Nat.le_refl _) _).alloc (by simp) _).trans (hb.mono (by simp <;> omega)))
    clear hb
    go_wp2
    exact bodyPost_ret (v:=.tuple #[.agg #[.int .i64 0,.int .i64 0,.int .i64 0,.int .i64 0,.int .i64 0,.int .i64 0,.string ByteArray.empty],.int .i64 7]) (by simp only [results,Tryz.results135];go_simp <;> rfl) rfl ⟨by rw [HF.out,HE.out] <;> rfl,below7 HB1.out (by simp) _ _ _ _ _ _ _⟩
   ·have he:dlE M=0:=by unfold dlE;rw [if_pos h,if_neg hg,if_neg hq]
    have HF:=Lh (show dlM M=⟨M.id,M.rt,M.ep,M.ct+1,M.gn+1,M.st,M.bd⟩ from if_pos he)
    have HE:=Lh he
    have hq' : (M.ct==8)=false:=beq_eq_false_iff_ne.2 hq
    obtain ⟨_,_,_,⟨q0,q1⟩,⟨g0,g1⟩,_,_⟩:=vf_ok h
    clear h he hg hq
    go_enter Tryz.func135,Tryz.ntmps135
    go_wp2_with fail
    refine (HC.out _).mono ?_
    rintro e w1 ⟨rfl,hb⟩
    obtain ⟨hc,hf⟩:=bcell hb
    have hz:=hb.size
    simp at hz
    have hlt:w.heap.size<w.heap.size+1+1:=by omega
    have hz0:w.heap.size<w1.heap.size:=by omega
    have HB1:=Lh ((((Below.refl w.heap.size w).alloc (Nat.le_refl _) _).alloc (by simp) _).trans (hb.mono (by simp <;> omega)))
    clear hb
    go_wp2
    exact bodyPost_ret (v:=.tuple #[Msg.v ⟨M.id,M.rt,M.ep,M.ct+1,M.gn+1,M.st,M.bd⟩,.int .i64 0]) (by simp only [results,Tryz.results135];go_simp <;> rfl) rfl ⟨by rw [HF.out,HE.out] <;> rfl,below7 ((HB1.out.setCell (by simp) _).setCell (by simp) _) (by simp) _ _ _ _ _ _ _⟩
 ·have he:dlE M=vf M:=if_neg h
  have HF:=Lh (dl_not M _ he h)
  have HE:=Lh he
  have hne:(vf M != 0)=true:=bne_iff_ne.2 h
  generalize vf M=k at*
  clear h he
  go_enter Tryz.func135,Tryz.ntmps135
  go_wp2_with fail
  refine (HC.out _).mono ?_
  rintro e w1 ⟨rfl,hb⟩
  obtain ⟨hc,hf⟩:=bcell hb
  have hz:=hb.size
  simp at hz
  have hlt:w.heap.size<w.heap.size+1+1:=by omega
  have hz0:w.heap.size<w1.heap.size:=by omega
  have HB1:=Lh ((((Below.refl w.heap.size w).alloc (Nat.le_refl _) _).alloc (by simp) _).trans (hb.mono (by simp <;> omega)))
  clear hb
  go_wp2
  exact bodyPost_ret (v:=.tuple #[.agg #[.int .i64 0,.int .i64 0,.int .i64 0,.int .i64 0,.int .i64 0,.int .i64 0,.string ByteArray.empty],.int .i64 k]) (by simp only [results,Tryz.results135];go_simp <;> rfl) rfl ⟨by rw [HF.out,HE.out] <;> rfl,below7 HB1.out (by simp) _ _ _ _ _ _ _⟩
end Go.Proofs.YtncgbldcjfbknaaGreat
/- Plain: picking the first messages that are wanted; granting them. -/
namespace Go.Proofs.YtncgbldcjfbknaaGreat
open Go.RowKit
set_option linter.unusedVariables false
def pkS (mx:Nat) (p:Msg→Bool) (s:List Msg×List Msg) (M:Msg):List Msg×List Msg:=if s.1.length<mx∧p M=true then (s.1++[M],s.2) else (s.1,s.2++[M])
def pk (mx:Nat) (p:Msg→Bool) (L:List Msg):List Msg×List Msg:=L.foldl (pkS mx p) ([],[])
section
variable {mx:Nat} {p:Msg→Bool} {L:List Msg} {M:Msg} {i:Nat}
theorem pk_snoc:pk mx p (L++[M])=pkS mx p (pk mx p L) M:=by unfold pk;rw [List.foldl_append];rfl
theorem pk_next (hi:i<L.length):pk mx p (L.take (i+1))=pkS mx p (pk mx p (L.take i)) L[i]:=by rw [←List.take_append_getElem hi,pk_snoc]
theorem pk_yes (hi:i<L.length) (h1:(pk mx p (L.take i)).1.length<mx) (h2:p L[i]=true):pk mx p (L.take (i+1))=((pk mx p (L.take i)).1++[L[i]],(pk mx p (L.take i)).2):=by rw [pk_next hi];exact if_pos ⟨h1,h2⟩
theorem pk_no (hi:i<L.length) (h:¬((pk mx p (L.take i)).1.length<mx∧p L[i]=true)):pk mx p (L.take (i+1))=((pk mx p (L.take i)).1,(pk mx p (L.take i)).2++[L[i]]):=by rw [pk_next hi];exact if_neg h
theorem pk_subR (mx:Nat) (p:Msg→Bool):∀ (r L:List Msg),L=r.reverse→List.Sublist (pk mx p L).2 L∧List.Sublist (pk mx p L).1 L∧∀ M∈(pk mx p L).1,p M=true
 | [],L,e=>by subst e;exact ⟨List.Sublist.refl _,List.Sublist.refl _,fun M h=>by cases h⟩
 | M::r,L,e=>by
  subst e
  rw [List.reverse_cons,pk_snoc]
  obtain ⟨h1,h2,h3⟩:=pk_subR mx p r r.reverse rfl
  unfold pkS
  split
  ·rename_i hc
   refine ⟨h1.trans (List.sublist_append_left _ _),h2.append (List.Sublist.refl _),fun N hN=>?_⟩
   rcases List.mem_append.1 hN with h | h
   ·exact h3 N h
   ·rw [List.mem_singleton.1 h];exact hc.2
  ·exact ⟨h1.append (List.Sublist.refl _),h2.trans (List.sublist_append_left _ _),h3⟩
theorem pk_sub (mx:Nat) (p:Msg→Bool) (L:List Msg):List.Sublist (pk mx p L).2 L∧List.Sublist (pk mx p L).1 L∧∀ M∈(pk mx p L).1,p M=true:=pk_subR mx p L.reverse L (by simp)
theorem pk_fullR (h:mx≤(pk mx p L).1.length):∀ (r m:List Msg),m=r.reverse→pk mx p (L++m)=((pk mx p L).1,(pk mx p L).2++m)
 | [],m,e=>by subst e;simp
 | M::r,m,e=>by
  subst e
  rw [List.reverse_cons,←List.append_assoc,pk_snoc,pk_fullR h r r.reverse rfl]
  unfold pkS
  rw [if_neg (by simp only;omega),List.append_assoc]
theorem pk_full (h:mx≤(pk mx p L).1.length) (m:List Msg):pk mx p (L++m)=((pk mx p L).1,(pk mx p L).2++m):=pk_fullR h m.reverse m (by simp)
def pkL (mx:Nat) (p:Msg→Bool) (L:List Msg) (i:Nat):List Msg:=(pk mx p (L.take i)).2++L.drop i
theorem pkL_zero:pkL mx p L 0=L:=by simp [pkL,pk]
theorem pkL_end:pkL mx p L L.length=(pk mx p L).2:=by simp [pkL]
theorem pkL_sub (i:Nat):List.Sublist (pkL mx p L i) L:=by
 unfold pkL
 conv=>rhs;rw [←List.take_append_drop i L]
 exact (pk_sub mx p (L.take i)).1.append (List.Sublist.refl _)
theorem pkL_at (hi:i<L.length):∃ h:(pk mx p (L.take i)).2.length<(pkL mx p L i).length,(pkL mx p L i)[(pk mx p (L.take i)).2.length]=L[i]:=by
 have hl:(pkL mx p L i).length=(pk mx p (L.take i)).2.length+(L.length - i):=by simp [pkL]
 refine ⟨by omega,?_⟩
 simp [pkL]
theorem pkL_yes (hi:i<L.length) (h1:(pk mx p (L.take i)).1.length<mx) (h2:p L[i]=true):pkL mx p L (i+1)=(pkL mx p L i).eraseIdx (pk mx p (L.take i)).2.length:=by
 unfold pkL
 rw [pk_yes hi h1 h2,List.drop_eq_getElem_cons hi,List.eraseIdx_append_of_length_le (Nat.le_refl _),Nat.sub_self]
 rfl
theorem pkL_no (hi:i<L.length) (h:¬((pk mx p (L.take i)).1.length<mx∧p L[i]=true)):pkL mx p L (i+1)=pkL mx p L i:=by
 unfold pkL
 rw [pk_no hi h,List.drop_eq_getElem_cons hi,List.append_assoc]
 rfl
end
def Vs.ring (V:Vs) (L:List Msg):Vs:=⟨V.lo,V.hi,V.n,V.hd,L,V.l,V.h⟩
noncomputable def Vs.grs (dl:Int) (V:Vs) (T:List Msg):Vs:=T.foldl (fun V M=>V.gr ⟨dlM M,dl⟩) V
noncomputable def Vs.take (V:Vs) (mx:Nat) (p:Msg→Bool) (dl:Int):Vs:=(V.ring (pk mx p V.L).2).grs dl (pk mx p V.L).1
section
variable {V:Vs} {dl:Int}
theorem grs_snoc (V:Vs) (dl:Int) (T:List Msg) (M:Msg):V.grs dl (T++[M])=(V.grs dl T).gr ⟨dlM M,dl⟩:=by unfold Vs.grs;rw [List.foldl_append];rfl
theorem ring_ok (k:V.Ok) {L:List Msg} (hs:List.Sublist L V.L):(V.ring L).Ok:=by
 have hsub:List.Sublist (V.ring L).al V.al:=hs.append (List.Sublist.refl _)
 exact ⟨k.n1,k.n2,k.hh,k.tb,k.sp,by have:=k.room;have:=hs.length_le;show L.length+V.l.length≤V.n;omega,gd_sub hsub k.gd,fun M hM=>k.own M (hsub.subset hM)⟩
end
theorem rvF_iff {M:Msg} {ep lim:Int}:rvF M ep lim=true↔ep≤M.ep∧M.ct<lim∧M.gn<65536:=by
 unfold rvF puF spF
 simp only [Bool.and_eq_true,Bool.not_eq_true',decide_eq_false_iff_not,decide_eq_true_eq]
 omega
theorem dl_rv {M:Msg} {ep lim:Int} (hM:vf M=0) (h:rvF M ep lim=true) (hl:lim≤8):dlM M=⟨M.id,M.rt,M.ep,M.ct+1,M.gn+1,M.st,M.bd⟩:=by
 obtain ⟨h1,h2,h3⟩:=rvF_iff.1 h
 have e:dlE M=0:=by unfold dlE;rw [if_pos hM,if_neg (by omega),if_neg (by omega)]
 unfold dlM
 rw [if_pos e]
end Go.Proofs.YtncgbldcjfbknaaGreat
