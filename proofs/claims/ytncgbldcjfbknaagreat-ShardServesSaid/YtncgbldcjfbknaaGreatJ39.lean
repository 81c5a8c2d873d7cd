/- What is proved here: ref07.Put by a contract; shard.Change by a contract; shardqueueref06.Extend by a contract; ref07.Change by a contract; ref07.Nack by a contract. -/
import Derived.Test.YtncgbldcjfbknaaGreatJ37
namespace Go.Proofs.YtncgbldcjfbknaaGreat
open Go.RowKit
set_option linter.unusedVariables false
theorem dup_one {l:List Msg} {M:Msg} (hd:¬dupP l):dpB (l++[M])=decide (0≤ixF l M.id):=by
 by_cases h:0≤ixF l M.id
 ·rw [decide_eq_true h]
  exact dpB_yes (dup_take (l:=l++[M]) (k:=l.length) (by simp) (by simpa using h))
 ·rw [decide_eq_false h]
  refine dpB_no (fun ⟨i,j,hi,hj,hij,e⟩=>?_)
  have hj' : j<l.length+1:=by simpa using hj
  by_cases h1:j<l.length
  ·rw [List.getElem_append_left (by omega),List.getElem_append_left h1] at e
   exact hd ⟨i,j,by omega,h1,hij,e⟩
  ·obtain rfl:j=l.length:=by omega
   rw [List.getElem_append_left (by omega),List.getElem_concat_length rfl] at e
   exact h ((ixF_ge _ _).2 ⟨_,List.getElem_mem _,e⟩)
theorem dup_sh {S:Sh} (h:exS S true=0) (M:Msg):dpB (S.al++[M])=decide (0≤ixF S.al M.id):=by
 obtain ⟨-,V,k,rfl⟩:=vs_ex h
 rw [k.al_sh]
 exact dup_one k.gd.2
set_option maxHeartbeats 8000000 in
set_option maxRecDepth 20000 in
theorem rput7_any (S:Sh) (D:Sx) (M:Msg) (w:World) (hs:SR w w.heap.size S D) :
  Calls Tryz.prog 81 #[sv S D,M.v] w (SE7 w (spuR S M) (puS S M)):=by
 have H0:=Lh (SmrAt.start w S D M 33 56 33 hs)
 have HV:=Lh (fun p W (k:SAt w p S D W)=>rlive7_any S D W k.sr)
 have HVM:=Lh (fun W=>rvalidate_any M W)
 have HST:=Lh (fun p W (k:SAt w p S D W)=>rstored7_any S D W k.sr)
 have HPB:=Lh (fun p W (k:SAt w p S D W)=>rpback_any D.A S.cs.length D.c S.cs S.hd S.sz M W k.sr.ls)
 have HO:=Lh (fun r (h:w.heap.size≤r)=>hs.offs h)
 have HR1:=Lh (show puS S M=0→spuR S M=⟨S.lv,S.lo,S.hi,pbC S.cs S.hd S.sz M,ifE (puE S.cs S.hd S.sz M) S.hd,ifE (puE S.cs S.hd S.sz M) (S.sz+1),S.l,S.h⟩ from fun h=>if_pos h)
 have HR0:=Lh (show puS S M≠0→spuR S M=zS from fun h=>if_neg h)
 have HPX:=Lh (fun h=>puS_ex (S:=S) (M:=M) h)
 have HPV:=Lh (fun h h1=>puS_vf (S:=S) (M:=M) h h1)
 have HP12:=Lh (fun h h1 h2=>puS_12 (S:=S) (M:=M) h h1 h2)
 have HP3:=Lh (fun h h1 h2 h3=>puS_3 (S:=S) (M:=M) h h1 h2 h3)
 have HP10:=Lh (fun h h1 h2 h3 h4=>puS_10 (S:=S) (M:=M) h h1 h2 h3 h4)
 have HP0:=Lh (fun h h1 h2 h3 h4=>puS_0 (S:=S) (M:=M) h h1 h2 h3 h4)
 have HDU:=Lh (fun h=>dup_sh (S:=S) h M)
 clear hs
 generalize spuR S M=T at*
 generalize puS S M=y at*
 go_enter Tryz.func81,Tryz.ntmps81
 obtain ⟨t0,t1,t2,t3,t4,t5,t6,t7,tl⟩:=H0.out.sm.sa.s8.facts
 obtain ⟨v0,v1,v2,v3,v4,v5,v6⟩:=H0.out.sm.mb.m7
 have vl:=H0.out.sm.mb.lt
 go_wp2_with fail
 clear t0 t1 t2 t3 t4 t5 t6 t7 tl v0 v1 v2 v3 v4 v5 v6 vl
 obtain ⟨p,hp⟩:∃ p,p=w.heap.size:=⟨_,rfl⟩
 obtain ⟨q,hq⟩:∃ q,q=w.heap.size+1:=⟨_,rfl⟩
 obtain ⟨r,hr⟩:∃ r,r=w.heap.size+1+1:=⟨_,rfl⟩
 rw [←hr,←hq,←hp]
 rw [←hr,←hq,←hp] at H0
 clear hp hq hr
 generalize (((w.alloc (.cells #[.bool S.lv,.int .i64 S.lo,.int .i64 S.hi,.slice D.A S.cs.length D.c,.int .i64 S.hd,.int .i64 S.sz,.slice D.A2 S.l.length D.c2,.slice D.A3 S.h.length D.c3] 33)).alloc (.cells #[.int .i64 M.id,.int .i64 M.rt,.int .i64 M.ep,.int .i64 M.ct,.int .i64 M.gn,.int .i64 M.st,.string M.bd] 56)).alloc (.cells #[.bool false,.int .i64 0,.int .i64 0,.slice none 0 0,.int .i64 0,.int .i64 0,.slice none 0 0,.slice none 0 0] 33))=w1 at*
 refine (HV.out _ _ H0.out.sm.sa).mono ?_
 rintro e w2 ⟨rfl,hb⟩
 have H1:=Lh (H0.out.below hb)
 have HNE:=Lh (show w.heap.size≤p∧p<q∧q<r from ⟨H1.out.sm.sa.old,H1.out.sm.lt,H1.out.ne⟩)
 clear hb H0 HV
 by_cases hx:exS S true=0
 ·rw [hx]
  have hn:=ex_nums hx
  have HDU':=Lh (HDU.out hx)
  have HSS:=Lh (show stF S=S.sz+S.l.length from if_pos hx)
  have HAL:=Lh (fun p W (k:SAt w p S D W)=>rall_any S D W k.sr (Nat.le_trans (lsF_le _ _ _) (by omega)) (by omega))
  obtain ⟨v0,v1,v2,v3,v4,v5,v6⟩:=H1.out.sm.mb.m7
  have vl:=H1.out.sm.mb.lt
  go_wp2_with fail
  clear v0 v1 v2 v3 v4 v5 v6 vl
  refine (HVM.out _).mono ?_
  rintro e w3 ⟨rfl,hb⟩
  have H2:=Lh (H1.out.below hb)
  clear hb H1
  by_cases hvf:vf M=0
  ·rw [hvf]
   obtain ⟨t0,t1,t2,t3,t4,t5,t6,t7,tl⟩:=H2.out.sm.sa.s8.facts
   obtain ⟨v0,v1,v2,v3,v4,v5,v6⟩:=H2.out.sm.mb.m7
   have vl:=H2.out.sm.mb.lt
   by_cases hlo:M.rt<S.lo
   ·have HY:=Lh (show y=12 from HP12.out hx hvf (wi_low hlo))
    have HF:=Lh (show SE7 w T y (.returned (.tuple #[.agg #[.bool false,.int .i64 0,.int .i64 0,.slice none 0 0,.int .i64 0,.int .i64 0,.slice none 0 0,.slice none 0 0],.int .i64 12])) (z8 w3 r) from by
     rw [HR0.out (by rw [HY.out];decide),HY.out]
     exact (se_zero (by have:=HNE.out;omega) H2.out.sm.sa.bel).to7)
    clear hx hvf
    obtain ⟨⟨r0,r1,r2,r3,r4,r5,r6,r7,rl⟩,⟨g0,g1,g2,g3,g4,g5,g6,g7⟩⟩:=H2.out.rs.all
    go_wp2
    exact bodyPost_ret (v:=.tuple #[.agg #[.bool false,.int .i64 0,.int .i64 0,.slice none 0 0,.int .i64 0,.int .i64 0,.slice none 0 0,.slice none 0 0],.int .i64 12]) (by simp only [results,Tryz.results81];go_simp <;> rfl) rfl HF.out
   ·by_cases hhi:S.hi<M.rt
    ·have HY:=Lh (show y=12 from HP12.out hx hvf (by unfold wi;exact decide_eq_false (by omega)))
     have HF:=Lh (show SE7 w T y (.returned (.tuple #[.agg #[.bool false,.int .i64 0,.int .i64 0,.slice none 0 0,.int .i64 0,.int .i64 0,.slice none 0 0,.slice none 0 0],.int .i64 12])) (z8 w3 r) from by
      rw [HR0.out (by rw [HY.out];decide),HY.out]
      exact (se_zero (by have:=HNE.out;omega) H2.out.sm.sa.bel).to7)
     clear hx hvf
     obtain ⟨⟨r0,r1,r2,r3,r4,r5,r6,r7,rl⟩,⟨g0,g1,g2,g3,g4,g5,g6,g7⟩⟩:=H2.out.rs.all
     go_wp2
     exact bodyPost_ret (v:=.tuple #[.agg #[.bool false,.int .i64 0,.int .i64 0,.slice none 0 0,.int .i64 0,.int .i64 0,.slice none 0 0,.slice none 0 0],.int .i64 12]) (by simp only [results,Tryz.results81];go_simp <;> rfl) rfl HF.out
    ·have HWI:=Lh (show wi M.rt S.lo S.hi=true from wi_true (by omega) (by omega))
     have HE:=Lh (And.intro hx hvf)
     clear hx hvf
     rw [HSS.out] at HST
     clear HSS HDU HPX HPV HP12 HVM
     have HD0:=Lh (H2.out.below (Below.refl _ _).drew)
     have HN:=Lh hn
     go_wp2_with fail
     clear t0 t1 t2 t3 t4 t5 t6 t7 tl v0 v1 v2 v3 v4 v5 v6 vl hn
     have HK0:=Lh H2.out.sm.sa.k8
     have HK1:=Lh HD0.out.sm.sa.k8
     by_cases hfu:S.sz+(S.l.length:Int)=(S.cs.length:Int)
     ·have HY:=Lh (HP3.out HE.out.1 HE.out.2 HWI.out hfu)
      have hfb:(S.sz+(S.l.length:Int)==(S.cs.length:Int))=true:=by simpa using hfu
      clear hfu HP3 HP10 HP0
      go_region_held3 (fun W=>K8 p S D W)
       (first | with_reducible exact HK1.out | with_reducible exact HK2.out | with_reducible exact HK0.out)
       (first | (go_at_call 77;(with_reducible refine (HST.out _ _ HD0.out.sm.sa).mono ?_);rintro e w4 ⟨rfl,hb⟩;have H3:=Lh (HD0.out.below hb);have HK2:=Lh H3.out.sm.sa.k8;clear hb))
      have HF:=Lh (show SE7 w T y (.returned (.tuple #[.agg #[.bool false,.int .i64 0,.int .i64 0,.slice none 0 0,.int .i64 0,.int .i64 0,.slice none 0 0,.slice none 0 0],.int .i64 3])) (z8 w4 r) from by
       rw [HR0.out (by rw [HY.out];decide),HY.out]
       exact (se_zero (by have:=HNE.out;omega) H3.out.sm.sa.bel).to7)
      obtain ⟨⟨r0,r1,r2,r3,r4,r5,r6,r7,rl⟩,⟨g0,g1,g2,g3,g4,g5,g6,g7⟩⟩:=H3.out.rs.all
      go_wp2
      exact bodyPost_ret (v:=.tuple #[.agg #[.bool false,.int .i64 0,.int .i64 0,.slice none 0 0,.int .i64 0,.int .i64 0,.slice none 0 0,.slice none 0 0],.int .i64 3]) (by simp only [results,Tryz.results81];go_simp <;> rfl) rfl HF.out
     ·have hfb:(S.sz+(S.l.length:Int)==(S.cs.length:Int))=false:=by simpa using hfu
      have HFU:=Lh hfu
      clear hfu HP3
      go_region_held3 (fun W=>K8 p S D W)
       (first | with_reducible exact HK1.out | with_reducible exact HK2.out | with_reducible exact HK0.out)
       (first | (go_at_call 77;(with_reducible refine (HST.out _ _ HD0.out.sm.sa).mono ?_);rintro e w4 ⟨rfl,hb⟩;have H3:=Lh (HD0.out.below hb);have HK2:=Lh H3.out.sm.sa.k8;clear hb))
      clear HK0 HK1 HK2 HD0 HST H2
      go_wp2_with fail
      clear hfb
      have HD0:=Lh (H3.out.below (Below.refl _ _).drew)
      have HK0:=Lh (show K8 p S D w4∧w4.cell? ⟨q,0,none⟩=some (.int .i64 M.id) from ⟨H3.out.sm.sa.k8,H3.out.sm.mb.m7.1⟩)
      have HK1:=Lh (show K8 p S D w4.drew∧w4.drew.cell? ⟨q,0,none⟩=some (.int .i64 M.id) from ⟨HD0.out.sm.sa.k8,HD0.out.sm.mb.m7.1⟩)
      go_region_held3 (fun W=>K8 p S D W∧W.cell? ⟨q,0,none⟩=some (.int .i64 M.id))
       (first | with_reducible exact HK1.out | with_reducible exact HK2.out | with_reducible exact HK0.out)
       (first
       | (go_at_call 27;(with_reducible refine (HAL.out _ _ HD0.out.sm.sa).mono ?_);rintro e w5 ⟨A5,c5,rfl,hl,hb⟩;have H4:=Lh (HD0.out.below hb);have HK2:=Lh (show K8 p S D w5∧w5.cell? ⟨q,0,none⟩=some (.int .i64 M.id) from ⟨H4.out.sm.sa.k8,H4.out.sm.mb.m7.1⟩);have HL5:=Lh hl;clear hl hb)
       | (go_at_call 28;(with_reducible refine (rindex_any _ _ _ _ M.id _ _ HL5.out).mono ?_);rintro e w6 ⟨rfl,rfl⟩))
      clear HK0 HK1 HK2 HD0 HAL H3 HL5
      by_cases hix:0≤ixF S.al M.id
      ·have HY:=Lh (HP10.out HE.out.1 HE.out.2 HWI.out HFU.out (by rw [HDU'.out];exact decide_eq_true hix))
       generalize ixF S.al M.id=ix at*
       clear HDU' HP10 HP0
       have HF:=Lh (show SE7 w T y (.returned (.tuple #[.agg #[.bool false,.int .i64 0,.int .i64 0,.slice none 0 0,.int .i64 0,.int .i64 0,.slice none 0 0,.slice none 0 0],.int .i64 10])) (z8 w5 r) from by
        rw [HR0.out (by rw [HY.out];decide),HY.out]
        exact (se_zero (by have:=HNE.out;omega) H4.out.sm.sa.bel).to7)
       obtain ⟨⟨r0,r1,r2,r3,r4,r5,r6,r7,rl⟩,⟨g0,g1,g2,g3,g4,g5,g6,g7⟩⟩:=H4.out.rs.all
       go_wp2
       exact bodyPost_ret (v:=.tuple #[.agg #[.bool false,.int .i64 0,.int .i64 0,.slice none 0 0,.int .i64 0,.int .i64 0,.slice none 0 0,.slice none 0 0],.int .i64 10]) (by simp only [results,Tryz.results81];go_simp <;> rfl) rfl HF.out
      ·have HY:=Lh (HP0.out HE.out.1 HE.out.2 HWI.out HFU.out (by rw [HDU'.out];exact decide_eq_false hix))
       generalize ixF S.al M.id=ix at*
       have HRR:=Lh (HR1.out HY.out)
       clear HDU' HP10 HP0 HR1 HR0
       generalize pbC S.cs S.hd S.sz M=cs at*
       generalize ifE (puE S.cs S.hd S.sz M) S.hd=hd at*
       generalize ifE (puE S.cs S.hd S.sz M) (S.sz+1)=sz at*
       generalize puE S.cs S.hd S.sz M=pe at*
       obtain ⟨t0,t1,t2,t3,t4,t5,t6,t7,tl⟩:=H4.out.sm.sa.s8.facts
       obtain ⟨v0,v1,v2,v3,v4,v5,v6⟩:=H4.out.sm.mb.m7
       have vl:=H4.out.sm.mb.lt
       go_wp2_with fail
       clear t0 t1 t2 t3 t4 t5 t6 t7 tl v0 v1 v2 v3 v4 v5 v6 vl
       refine (HPB.out _ _ H4.out.sm.sa).mono ?_
       rintro e w6 ⟨A6,c6,rfl,hn6,hl6,hb⟩
       have H5:=Lh (H4.out.below hb)
       have N6:=Lh (show Nw (r+1) A6 from nw_low hn6 H4.out.rs.lt)
       have H6:=Lh (H5.out.sm.sa.setRing hd sz hl6 (offb_nw hn6 H4.out.sm.sa.lt))
       clear hn6 hl6 hb
       have HF:=Lh (show SE7 w T y (.returned (.tuple #[.agg #[.bool S.lv,.int .i64 S.lo,.int .i64 S.hi,.slice A6 cs.length c6,.int .i64 hd,.int .i64 sz,.slice D.A2 S.l.length D.c2,.slice D.A3 S.h.length D.c3],.int .i64 0])) (((((((((((w6.setCell ⟨p,3,none⟩ (.slice A6 cs.length c6)).setCell ⟨p,4,none⟩ (.int .i64 hd)).setCell ⟨p,5,none⟩ (.int .i64 sz)).setCell ⟨r,0,none⟩ (.bool S.lv)).setCell ⟨r,1,none⟩ (.int .i64 S.lo)).setCell ⟨r,2,none⟩ (.int .i64 S.hi)).setCell ⟨r,3,none⟩ (.slice A6 cs.length c6)).setCell ⟨r,4,none⟩ (.int .i64 hd)).setCell ⟨r,5,none⟩ (.int .i64 sz)).setCell ⟨r,6,none⟩ (.slice D.A2 S.l.length D.c2)).setCell ⟨r,7,none⟩ (.slice D.A3 S.h.length D.c3)) from by
        rw [HY.out,HRR.out]
        have hne:=HNE.out
        exact ⟨⟨A6,c6,D.A2,D.c2,D.A3,D.c3⟩,rfl,SR.sets (S:=⟨S.lv,S.lo,S.hi,cs,hd,sz,S.l,S.h⟩) (D:=⟨A6,c6,D.A2,D.c2,D.A3,D.c3⟩) ⟨offb_nw N6.out (Nat.lt_succ_self r),(HO.out r (by omega)).o2,(HO.out r (by omega)).o3⟩ (Sh.l8 ⟨S.lv,S.lo,S.hi,cs,hd,sz,S.l,S.h⟩ ⟨A6,c6,D.A2,D.c2,D.A3,D.c3⟩) 0 _ H6.out.sr,set8s_below (show w.heap.size≤r by omega) H6.out.bel ⟨S.lv,S.lo,S.hi,cs,hd,sz,S.l,S.h⟩ ⟨A6,c6,D.A2,D.c2,D.A3,D.c3⟩⟩)
       obtain ⟨⟨t0,t1,t2,t3,t4,t5,t6,t7,tl⟩,⟨f0,f1,f2,f3,f4,f5,f6,f7⟩⟩:=H5.out.sm.sa.s8.all
       obtain ⟨⟨r0,r1,r2,r3,r4,r5,r6,r7,rl⟩,⟨g0,g1,g2,g3,g4,g5,g6,g7⟩⟩:=H5.out.rs.all
       obtain ⟨hwp,hpq,hqr⟩:=HNE.out
       have hrp:¬r=p:=by omega
       have hpr:¬p=r:=by omega
       clear hwp hpq hqr
       go_wp2
       exact bodyPost_ret (v:=.tuple #[.agg #[.bool S.lv,.int .i64 S.lo,.int .i64 S.hi,.slice A6 cs.length c6,.int .i64 hd,.int .i64 sz,.slice D.A2 S.l.length D.c2,.slice D.A3 S.h.length D.c3],.int .i64 0]) (by simp only [results,Tryz.results81];go_simp <;> rfl) rfl HF.out
  ·have HY:=Lh (show y=vf M from HPV.out hx hvf)
   have hne:(vf M != 0)=true:=bne_iff_ne.2 hvf
   have HF:=Lh (show SE7 w T y (.returned (.tuple #[.agg #[.bool false,.int .i64 0,.int .i64 0,.slice none 0 0,.int .i64 0,.int .i64 0,.slice none 0 0,.slice none 0 0],.int .i64 (vf M)])) (z8 w3 r) from by
    rw [HR0.out (by rw [HY.out];exact hvf),HY.out]
    exact (se_zero (by have:=HNE.out;omega) H2.out.sm.sa.bel).to7)
   clear hx hvf HY HVM
   generalize vf M=x at*
   obtain ⟨⟨r0,r1,r2,r3,r4,r5,r6,r7,rl⟩,⟨g0,g1,g2,g3,g4,g5,g6,g7⟩⟩:=H2.out.rs.all
   go_wp2
   exact bodyPost_ret (v:=.tuple #[.agg #[.bool false,.int .i64 0,.int .i64 0,.slice none 0 0,.int .i64 0,.int .i64 0,.slice none 0 0,.slice none 0 0],.int .i64 x]) (by simp only [results,Tryz.results81];go_simp <;> rfl) rfl HF.out
 ·have HY:=Lh (show y=exS S true from HPX.out hx)
  have hne:(exS S true != 0)=true:=bne_iff_ne.2 hx
  have HF:=Lh (show SE7 w T y (.returned (.tuple #[.agg #[.bool false,.int .i64 0,.int .i64 0,.slice none 0 0,.int .i64 0,.int .i64 0,.slice none 0 0,.slice none 0 0],.int .i64 (exS S true)])) (z8 w2 r) from by
   rw [HR0.out (by rw [HY.out];exact hx),HY.out]
   exact (se_zero (by have:=HNE.out;omega) H1.out.sm.sa.bel).to7)
  clear hx HY
  generalize exS S true=x at*
  obtain ⟨⟨r0,r1,r2,r3,r4,r5,r6,r7,rl⟩,⟨g0,g1,g2,g3,g4,g5,g6,g7⟩⟩:=H1.out.rs.all
  go_wp2
  exact bodyPost_ret (v:=.tuple #[.agg #[.bool false,.int .i64 0,.int .i64 0,.slice none 0 0,.int .i64 0,.int .i64 0,.slice none 0 0,.slice none 0 0],.int .i64 x]) (by simp only [results,Tryz.results81];go_simp <;> rfl) rfl HF.out
noncomputable def chgF (S:Sh) (id dl:Int):Sh:=⟨S.lv,S.lo,S.hi,S.cs,S.hd,S.sz,exL S.l S.h id dl,exH S.l S.h id dl⟩
noncomputable def chgE (S:Sh) (H:Hn) (now ep vis:Int):Int:=if heS S H now ep (wi vis 0 1000)≠0 then heS S H now ep (wi vis 0 1000) else if 1073741824<now+vis then 6 else 0
theorem he_nums {S:Sh} {H:Hn} {now ep:Int} {b:Bool} (h:heS S H now ep b=0):b=true∧(0≤now∧now≤1073741824)∧(0≤ep∧ep≤65536)∧exS S true=0:=by
 unfold heS at h
 by_cases h0:exS S (b&&(wi now 0 1073741824&&wi ep 0 65536))=0
 ·obtain ⟨h1,h2,h3⟩:=exS_zero h0
  rw [Bool.and_eq_true,Bool.and_eq_true] at h3
  exact ⟨h3.1,wi_of h3.2.1,wi_of h3.2.2,exS_ok h1 h2 rfl⟩
 ·rw [if_pos h0] at h;exact absurd h h0
abbrev ChK (p q:Nat) (S:Sh) (D:Sx) (H:Hn) (W:World):Prop:=K8 p S D W∧W.cell? ⟨q,0,none⟩=some (.int .i64 H.id)∧W.cell? ⟨q,1,none⟩=some (.int .i64 H.gn)∧W.cell? ⟨q,2,none⟩=some (.int .i64 H.rt)∧W.cell? ⟨q,3,none⟩=some (.int .i64 H.ht)
theorem ChK.mk {p q:Nat} {S:Sh} {D:Sx} {H:Hn} {W:World} (h:K8 p S D W) (k:H4 W q H):ChK p q S D H W:=⟨h,k.1,k.2.1,k.2.2.1,k.2.2.2.1⟩
set_option maxHeartbeats 8000000 in
set_option maxRecDepth 20000 in
theorem schange_any (S:Sh) (D:Sx) (H:Hn) (now ep vis:Int) (w:World) (hs:SR w w.heap.size S D) (hn:heS S H now ep (wi vis 0 1000)=0→S.sz4) :
  Calls Tryz.prog 17 #[sv S D,H.v,.int .i64 now,.int .i64 ep,.int .i64 vis] w (SE w (if chgE S H now ep vis=0 then chgF S H.id (now+vis) else zS) (chgE S H now ep vis)):=by
 have e1:(w.alloc (.cells #[.bool S.lv,.int .i64 S.lo,.int .i64 S.hi,.slice D.A S.cs.length D.c,.int .i64 S.hd,.int .i64 S.sz,.slice D.A2 S.l.length D.c2,.slice D.A3 S.h.length D.c3] 33)).heap.size=w.heap.size+1:=by simp
 have e2:((w.alloc (.cells #[.bool S.lv,.int .i64 S.lo,.int .i64 S.hi,.slice D.A S.cs.length D.c,.int .i64 S.hd,.int .i64 S.sz,.slice D.A2 S.l.length D.c2,.slice D.A3 S.h.length D.c3] 33)).alloc (.cells #[.int .i64 H.id,.int .i64 H.gn,.int .i64 H.rt,.int .i64 H.ht] 40)).heap.size=w.heap.size+1+1:=by simp
 have H0:=Lh (((SAt.start 33 hs).alloc (.cells #[.int .i64 H.id,.int .i64 H.gn,.int .i64 H.rt,.int .i64 H.ht] 40)).alloc (.cells #[.bool false,.int .i64 0,.int .i64 0,.slice none 0 0,.int .i64 0,.int .i64 0,.slice none 0 0,.slice none 0 0] 33))
 have Q0:=Lh ((H4.start (w.alloc (.cells #[.bool S.lv,.int .i64 S.lo,.int .i64 S.hi,.slice D.A S.cs.length D.c,.int .i64 S.hd,.int .i64 S.sz,.slice D.A2 S.l.length D.c2,.slice D.A3 S.h.length D.c3] 33)) H 40).up ((Below.refl _ _).alloc (Nat.le_refl _) (.cells #[.bool false,.int .i64 0,.int .i64 0,.slice none 0 0,.int .i64 0,.int .i64 0,.slice none 0 0,.slice none 0 0] 33)))
 have R0:=Lh (SB8.zero ((w.alloc (.cells #[.bool S.lv,.int .i64 S.lo,.int .i64 S.hi,.slice D.A S.cs.length D.c,.int .i64 S.hd,.int .i64 S.sz,.slice D.A2 S.l.length D.c2,.slice D.A3 S.h.length D.c3] 33)).alloc (.cells #[.int .i64 H.id,.int .i64 H.gn,.int .i64 H.rt,.int .i64 H.ht] 40)) 33)
 rw [e1] at Q0
 rw [e2] at R0
 have HHE:=Lh (fun A p W (k:SAt w p S D W) (hn:Nl W W.heap.size (.slice (some A) 1 1) [⟨vis,0,1000⟩])=>(show Calls Tryz.prog 50 #[sv S D,H.v,.int .i64 now,.int .i64 ep,.slice (some A) 1 1] W (VlT W (heS S H now ep (wi vis 0 1000))) from by
  have h:=sherr_any S D H now ep (some A) [⟨vis,0,1000⟩] W k.sr hn (fun h=>by cases h) (by simp)
  have he:([⟨vis,0,1000⟩]:List Rn).all Rn.ok=wi vis 0 1000:=by simp [Rn.ok]
  rw [he] at h
  exact h))
 have HNM:=Lh (fun h=>he_nums (S:=S) (H:=H) (now:=now) (ep:=ep) (b:=wi vis 0 1000) h)
 have HY0:Hid (chgE S H now ep vis=if heS S H now ep (wi vis 0 1000)≠0 then heS S H now ep (wi vis 0 1000) else if 1073741824<now+vis then 6 else 0):=Lh rfl
 obtain ⟨y,hy⟩:∃ y,y=chgE S H now ep vis:=⟨_,rfl⟩
 rw [←hy] at HY0
 rw [←hy]
 clear hy
 obtain ⟨x,hx⟩:∃ x,x=heS S H now ep (wi vis 0 1000):=⟨_,rfl⟩
 rw [←hx] at HHE hn HNM HY0
 have HL:=Lh (fun W=>avis_any vis W)
 have HCL:=Lh (fun (h:x=0) p W (q:SAt w p S D W)=>sclone_any S D W q.sr (hn h).1 (hn h).2.1 (hn h).2.2.1 (hn h).2.2.2)
 have HRL:=Lh (fun p D W (q:SAt w p S D W)=>lextend_any D.A2 S.l.length D.c2 S.l D.A3 S.h.length D.c3 S.h H.id (now+vis) W q.sr.el q.sr.dl)
 obtain ⟨T,hT⟩:∃ T,T=chgF S H.id (now+vis):=⟨_,rfl⟩
 obtain ⟨U,hU⟩:∃ U,U=if y=0 then chgF S H.id (now+vis) else zS:=⟨_,rfl⟩
 have HUU:=Lh (show U=if y=0 then T else zS from by rw [hU,hT])
 have HTT:=Lh (show T=⟨S.lv,S.lo,S.hi,S.cs,S.hd,S.sz,exL S.l S.h H.id (now+vis),exH S.l S.h H.id (now+vis)⟩ from hT)
 rw [←hU]
 clear hU hT hs hn hx
 generalize exL S.l S.h H.id (now+vis)=gl at*
 generalize exH S.l S.h H.id (now+vis)=gh at*
 generalize exE S.l S.h H.id (now+vis)=rE at*
 go_enter Tryz.func17,Tryz.ntmps17
 obtain ⟨p,hp⟩:∃ p,p=w.heap.size:=⟨_,rfl⟩
 obtain ⟨q,hq⟩:∃ q,q=w.heap.size+1:=⟨_,rfl⟩
 obtain ⟨r,hr⟩:∃ r,r=w.heap.size+1+1:=⟨_,rfl⟩
 have HPR:=Lh (show (¬p=r∧¬r=p∧¬p=q∧¬q=p)∧w.heap.size≤p∧p<q∧q<r by omega)
 go_upto_region 1 with (fail)
 rw [←hr,←hq,←hp]
 rw [←hr] at R0
 rw [←hq] at Q0
 rw [←hp] at H0
 clear e1 e2 hp hq hr
 generalize (((w.alloc (.cells #[.bool S.lv,.int .i64 S.lo,.int .i64 S.hi,.slice D.A S.cs.length D.c,.int .i64 S.hd,.int .i64 S.sz,.slice D.A2 S.l.length D.c2,.slice D.A3 S.h.length D.c3] 33)).alloc (.cells #[.int .i64 H.id,.int .i64 H.gn,.int .i64 H.rt,.int .i64 H.ht] 40)).alloc (.cells #[.bool false,.int .i64 0,.int .i64 0,.slice none 0 0,.int .i64 0,.int .i64 0,.slice none 0 0,.slice none 0 0] 33))=w1 at*
 have HD:=Lh H0.out.drew
 have QD:=Lh (Q0.out.up ((Below.refl _ _).drew))
 have RD:=Lh (R0.out.up ((Below.refl _ _).drew))
 have HT0:=Lh (show ChK p q S D H w1.drew from ChK.mk HD.out.k8 QD.out)
 go_region_held3 (fun W=>ChK p q S D H W)
  (first | with_reducible exact HT0.out | with_reducible exact HT1.out | with_reducible exact HT2.out | with_reducible exact HT3.out)
  (first
  | (go_at_call 42;(with_reducible refine (HL.out _).mono ?_);rintro e w3 ⟨rfl,hb⟩;have HA2:=Lh ((HD.out.below hb).alloc (.cells #[.int .i64 vis,.int .i64 0,.int .i64 1000] 82));have HB3:=Lh (hb.trans ((((Below.refl w3.heap.size w3).alloc (Nat.le_refl _) (.cells #[.int .i64 vis,.int .i64 0,.int .i64 1000] 82))).mono hb.size));have Q2:=Lh (QD.out.up HB3.out);have R2:=Lh (RD.out.up HB3.out);have HT1:=Lh (show ChK p q S D H w3 from ChK.mk (HD.out.below hb).k8 (QD.out.up hb));have HT2:=Lh (show ChK p q S D H (w3.alloc (.cells #[.int .i64 vis,.int .i64 0,.int .i64 1000] 82)) from ChK.mk HA2.out.k8 Q2.out);have HNL:=Lh (nl_one w3 ⟨vis,0,1000⟩ 82);clear hb)
  | (go_at_call 50;(with_reducible refine (HHE.out _ _ _ HA2.out ?_).mono ?_);(have:=HNL.out;simpa using this);rintro e w2 ⟨rfl,hb⟩;have H1:=Lh (HA2.out.below hb);have Q1:=Lh (Q2.out.up hb);have R1:=Lh (R2.out.up hb);have HT3:=Lh (show ChK p q S D H w2 from ChK.mk H1.out.k8 Q1.out);clear hb))
 clear HD QD RD HT0 HT1 HT2 HT3 HA2 HNL HL HHE H0 R0 R2 Q0 Q2 HB3
 by_cases hx:x=0
 ·have HX:=Lh hx
  obtain ⟨hvb,⟨nn1,nn2⟩,-,-⟩:=HNM.out hx
  have hvi:=wi_of hvb
  have hwr:wrap64 (now+vis)=now+vis:=IntWalk.wrap64_in _ (by omega)
  have HWR:=Lh hwr
  subst hx
  by_cases hdl:1073741824<now+vis
  ·have HYY:=Lh (show y=6 by rw [HY0.out,if_neg (by simp),if_pos hdl])
   have HF:=Lh (show SE w U y (.returned (.tuple #[.agg #[.bool false,.int .i64 0,.int .i64 0,.slice none 0 0,.int .i64 0,.int .i64 0,.slice none 0 0,.slice none 0 0],.int .i64 6])) (z8 w2 r) from by
    rw [HUU.out,HYY.out,if_neg (by decide)]
    have hne:=HPR.out.2
    exact se_zero (by omega) H1.out.bel)
   clear hwr
   obtain ⟨⟨r0,r1,r2,r3,r4,r5,r6,r7,rl⟩,⟨g0,g1,g2,g3,g4,g5,g6,g7⟩⟩:=R1.out.all
   go_wp2
   exact bodyPost_ret (v:=.tuple #[.agg #[.bool false,.int .i64 0,.int .i64 0,.slice none 0 0,.int .i64 0,.int .i64 0,.slice none 0 0,.slice none 0 0],.int .i64 6]) (by simp only [results,Tryz.results17];go_simp <;> rfl) rfl HF.out
  ·have HYY:=Lh (show y=0 by rw [HY0.out,if_neg (by simp),if_neg hdl])
   clear hwr
   obtain ⟨t0,t1,t2,t3,t4,t5,t6,t7,tl⟩:=H1.out.s8.facts
   go_wp2_with fail
   clear t0 t1 t2 t3 t4 t5 t6 t7 tl
   refine (HCL.out (by first | trivial | rfl) _ _ H1.out).mono ?_
   rintro e w3 ⟨D2,rfl,hn2,hr2,hb⟩
   have H2:=Lh (H1.out.below hb)
   have H3:=Lh (show SAt w p S D2 ((((((((w3.setCell ⟨p,0,none⟩ (.bool S.lv)).setCell ⟨p,1,none⟩ (.int .i64 S.lo)).setCell ⟨p,2,none⟩ (.int .i64 S.hi)).setCell ⟨p,3,none⟩ (.slice D2.A S.cs.length D2.c)).setCell ⟨p,4,none⟩ (.int .i64 S.hd)).setCell ⟨p,5,none⟩ (.int .i64 S.sz)).setCell ⟨p,6,none⟩ (.slice D2.A2 S.l.length D2.c2)).setCell ⟨p,7,none⟩ (.slice D2.A3 S.h.length D2.c3)) from H2.out.put hr2 (hn2.off H1.out.lt))
   have Q2:=Lh (Q1.out.up hb)
   have R3:=Lh (show SB8 ((((((((w3.setCell ⟨p,0,none⟩ (.bool S.lv)).setCell ⟨p,1,none⟩ (.int .i64 S.lo)).setCell ⟨p,2,none⟩ (.int .i64 S.hi)).setCell ⟨p,3,none⟩ (.slice D2.A S.cs.length D2.c)).setCell ⟨p,4,none⟩ (.int .i64 S.hd)).setCell ⟨p,5,none⟩ (.int .i64 S.sz)).setCell ⟨p,6,none⟩ (.slice D2.A2 S.l.length D2.c2)).setCell ⟨p,7,none⟩ (.slice D2.A3 S.h.length D2.c3)) r zS zX from (R1.out.up hb).put_far HPR.out.1.2.1 S D2)
   have N2:=Lh (show D2.nw (r+1) from hn2.low R1.out.lt)
   clear hn2 hr2 hb
   obtain ⟨⟨t0,t1,t2,t3,t4,t5,t6,t7,tl⟩,⟨f0,f1,f2,f3,f4,f5,f6,f7⟩⟩:=H2.out.s8.all
   obtain ⟨q0,q1,q2,q3,ql⟩:=Q2.out
   obtain ⟨⟨hpr,hrp,hpq,hqp⟩,-,-,-⟩:=HPR.out
   go_wp2_with fail
   clear t0 t1 t2 t3 t4 t5 t6 t7 tl f0 f1 f2 f3 f4 f5 f6 f7 q0 q1 q2 q3 ql hpr hrp hpq hqp H2 Q2 H1 Q1 R1
   generalize ((((((((w3.setCell ⟨p,0,none⟩ (.bool S.lv)).setCell ⟨p,1,none⟩ (.int .i64 S.lo)).setCell ⟨p,2,none⟩ (.int .i64 S.hi)).setCell ⟨p,3,none⟩ (.slice D2.A S.cs.length D2.c)).setCell ⟨p,4,none⟩ (.int .i64 S.hd)).setCell ⟨p,5,none⟩ (.int .i64 S.sz)).setCell ⟨p,6,none⟩ (.slice D2.A2 S.l.length D2.c2)).setCell ⟨p,7,none⟩ (.slice D2.A3 S.h.length D2.c3))=w3' at*
   refine (HRL.out _ _ _ H3.out).mono ?_
   rintro e w4 ⟨A3,c3,A4,c4,rfl,n3,n4,h3,h4,hb⟩
   have H4:=Lh (H3.out.below hb)
   have R4:=Lh (R3.out.up hb)
   have H5:=Lh (show SAt w p ⟨S.lv,S.lo,S.hi,S.cs,S.hd,S.sz,gl,gh⟩ ⟨D2.A,D2.c,A3,c3,A4,c4⟩ (((w4.setCell ⟨p,6,none⟩ (.slice A3 gl.length c3)).setCell ⟨p,7,none⟩ (.slice A4 gh.length c4))) from H4.out.setTab h3 h4 (offb_nw n3 H3.out.lt) (offb_nw n4 H3.out.lt))
   have N5:=Lh (show Nw (r+1) A3∧Nw (r+1) A4 from ⟨nw_low n3 R3.out.lt,nw_low n4 R3.out.lt⟩)
   clear n3 n4 h3 h4 hb
   have HF:=Lh (show SE w U y (.returned (.tuple #[.agg #[.bool S.lv,.int .i64 S.lo,.int .i64 S.hi,.slice D2.A S.cs.length D2.c,.int .i64 S.hd,.int .i64 S.sz,.slice A3 gl.length c3,.slice A4 gh.length c4],.int .i64 0])) (((((((((((w4.setCell ⟨p,6,none⟩ (.slice A3 gl.length c3)).setCell ⟨p,7,none⟩ (.slice A4 gh.length c4))).setCell ⟨r,0,none⟩ (.bool S.lv)).setCell ⟨r,1,none⟩ (.int .i64 S.lo)).setCell ⟨r,2,none⟩ (.int .i64 S.hi)).setCell ⟨r,3,none⟩ (.slice D2.A S.cs.length D2.c)).setCell ⟨r,4,none⟩ (.int .i64 S.hd)).setCell ⟨r,5,none⟩ (.int .i64 S.sz)).setCell ⟨r,6,none⟩ (.slice A3 gl.length c3)).setCell ⟨r,7,none⟩ (.slice A4 gh.length c4)) from by
    rw [HUU.out,if_pos HYY.out,HTT.out,HYY.out]
    have hne:=HPR.out.2
    exact ⟨⟨D2.A,D2.c,A3,c3,A4,c4⟩,rfl,⟨(N2.out.low (show w.heap.size≤r+1 by omega)).1,nw_low N5.out.1 (by omega),nw_low N5.out.2 (by omega)⟩,SR.sets (S:=⟨S.lv,S.lo,S.hi,S.cs,S.hd,S.sz,gl,gh⟩) (D:=⟨D2.A,D2.c,A3,c3,A4,c4⟩) ⟨(N2.out.off (Nat.lt_succ_self r)).o1,offb_nw N5.out.1 (Nat.lt_succ_self r),offb_nw N5.out.2 (Nat.lt_succ_self r)⟩ (Sh.l8 ⟨S.lv,S.lo,S.hi,S.cs,S.hd,S.sz,gl,gh⟩ ⟨D2.A,D2.c,A3,c3,A4,c4⟩) 0 _ H5.out.sr,set8s_below (show w.heap.size≤r by omega) H5.out.bel ⟨S.lv,S.lo,S.hi,S.cs,S.hd,S.sz,gl,gh⟩ ⟨D2.A,D2.c,A3,c3,A4,c4⟩⟩)
   obtain ⟨⟨t0,t1,t2,t3,t4,t5,t6,t7,tl⟩,⟨f0,f1,f2,f3,f4,f5,f6,f7⟩⟩:=H4.out.s8.all
   obtain ⟨⟨r0,r1,r2,r3,r4,r5,r6,r7,rl⟩,⟨g0,g1,g2,g3,g4,g5,g6,g7⟩⟩:=R4.out.all
   obtain ⟨⟨hpr,hrp,hpq,hqp⟩,-,-,-⟩:=HPR.out
   go_wp2
   exact bodyPost_ret (v:=.tuple #[.agg #[.bool S.lv,.int .i64 S.lo,.int .i64 S.hi,.slice D2.A S.cs.length D2.c,.int .i64 S.hd,.int .i64 S.sz,.slice A3 gl.length c3,.slice A4 gh.length c4],.int .i64 0]) (by simp only [results,Tryz.results17];go_simp <;> rfl) rfl HF.out
 ·have hne:(x != 0)=true:=bne_iff_ne.2 hx
  have HYY:=Lh (show y=x by rw [HY0.out,if_pos hx])
  have HF:=Lh (show SE w U y (.returned (.tuple #[.agg #[.bool false,.int .i64 0,.int .i64 0,.slice none 0 0,.int .i64 0,.int .i64 0,.slice none 0 0,.slice none 0 0],.int .i64 x])) (z8 w2 r) from by
   rw [HUU.out,HYY.out,if_neg hx]
   have hne:=HPR.out.2
   exact se_zero (by omega) H1.out.bel)
  clear hx
  obtain ⟨⟨r0,r1,r2,r3,r4,r5,r6,r7,rl⟩,⟨g0,g1,g2,g3,g4,g5,g6,g7⟩⟩:=R1.out.all
  go_wp2
  exact bodyPost_ret (v:=.tuple #[.agg #[.bool false,.int .i64 0,.int .i64 0,.slice none 0 0,.int .i64 0,.int .i64 0,.slice none 0 0,.slice none 0 0],.int .i64 x]) (by simp only [results,Tryz.results17];go_simp <;> rfl) rfl HF.out
theorem exE_tb {l:List Le} {h:List Du} {id dl:Int} (h0:tbV l h≠0):exE l h id dl=tbV l h:=if_pos h0
theorem exE_4 {l:List Le} {h:List Du} {id dl:Int} (h0:tbV l h=0) (hk:kFi Le.id l id<0):exE l h id dl=4:=by unfold exE;rw [if_neg (by simpa using h0),if_pos hk]
theorem exE_1 {l:List Le} {h:List Du} {id dl:Int} (h0:tbV l h=0) (hk:¬kFi Le.id l id<0) (hd:dl<0∨1073741824<dl):exE l h id dl=1:=by unfold exE;rw [if_neg (by simpa using h0),if_neg hk,if_pos hd]
theorem exE_0 {l:List Le} {h:List Du} {id dl:Int} (h0:tbV l h=0) (hk:¬kFi Le.id l id<0) (hd:¬(dl<0∨1073741824<dl)):exE l h id dl=0:=by unfold exE;rw [if_neg (by simpa using h0),if_neg hk,if_neg hd]
set_option maxHeartbeats 8000000 in
set_option maxRecDepth 20000 in
theorem rtextend_any (A:Option Addr) (n c:Nat) (l:List Le) (A2:Option Addr) (n2 c2:Nat) (h:List Du) (id dl:Int) (w:World) (hv:El w w.heap.size (.slice A n c) l) (hd:Dl w w.heap.size (.slice A2 n2 c2) h) :
  Calls Tryz.prog 141 #[tv A n c A2 n2 c2,.int .i64 id,.int .i64 dl] w (TE w (exL l h id dl) (exH l h id dl) (exE l h id dl)):=by
 obtain ⟨rfl,hm1,hm2⟩:=hv.len
 obtain ⟨rfl,hm3,hm4⟩:=hd.len
 have H0:=Lh (ExW.start hv hd 31)
 have HW:=Lh hv
 have HV:=Lh (fun p W (k:VaA w p A c l A2 c2 h W)=>rtvalid_any A l.length c l A2 h.length c2 h W k.el k.dl)
 have HFI:=Lh (fun p W (k:VaA w p A c l A2 c2 h W)=>rtfind_any A l.length c l A2 h.length c2 id W k.el)
 have HRM:=Lh (fun p W (k:VaA w p A c l A2 c2 h W)=>rremove5_any A2 h.length c2 h id W k.dl)
 clear hv hd hm1 hm2 hm3 hm4
 by_cases h0:tbV l h=0
 ·rw [h0] at HV
  by_cases hk0:kFi Le.id l id<0
  ·have he:=exE_4 (dl:=dl) h0 hk0
   have HN:=Lh (exE_ne (l:=l) (h:=h) (id:=id) (dl:=dl) (by rw [he];decide))
   rw [HN.out.1,HN.out.2,he]
   generalize kFi Le.id l id=y at*
   clear he h0
   go_enter Tryz.func141,Tryz.ntmps141
   obtain ⟨t0,t1,tl⟩:=H0.out.va.tb
   go_wp2_with fail
   clear t0 t1 tl
   obtain ⟨p,hp⟩:∃ p,p=w.heap.size:=⟨_,rfl⟩
   obtain ⟨r,hr⟩:∃ r,r=w.heap.size+1:=⟨_,rfl⟩
   rw [←hr,←hp] at H0 ⊢
   clear hp hr
   generalize ((w.alloc (.cells #[.slice A l.length c,.slice A2 h.length c2] 31)).alloc (.cells #[.slice none 0 0,.slice none 0 0] 31))=w1 at*
   refine (HV.out _ _ H0.out.va).mono ?_
   rintro e w2 ⟨rfl,hb⟩
   have H1:=Lh (H0.out.below hb)
   clear hb
   obtain ⟨t0,t1,tl⟩:=H1.out.va.tb
   go_wp2_with fail
   clear t0 t1 tl
   refine (HFI.out _ _ H1.out.va).mono ?_
   rintro e w3 ⟨rfl,hb⟩
   have H2:=Lh (H1.out.below hb)
   clear hb
   obtain ⟨r0,r1,f0,f1,rl⟩:=H2.out.rt
   have HB:=Lh (show Below w.heap.size w (set2 w3 r (.slice none 0 0) (.slice none 0 0)) from set2_below H2.out.va.bel (by have:=H2.out.ne;omega))
   go_wp2
   exact bodyPost_ret (v:=.tuple #[.agg #[.slice none 0 0,.slice none 0 0],.int .i64 4]) (by simp only [results,Tryz.results141];go_simp <;> rfl) rfl (te_nil rfl rfl rfl HB.out)
  ·by_cases hd:dl<0∨1073741824<dl
   ·have he:=exE_1 h0 hk0 hd
    have HN:=Lh (exE_ne (l:=l) (h:=h) (id:=id) (dl:=dl) (by rw [he];decide))
    rw [HN.out.1,HN.out.2,he]
    generalize kFi Le.id l id=y at*
    clear he h0 HN
    by_cases hd1:dl<0
    ·clear hd
     go_enter Tryz.func141,Tryz.ntmps141
     obtain ⟨t0,t1,tl⟩:=H0.out.va.tb
     go_wp2_with fail
     clear t0 t1 tl
     obtain ⟨p,hp⟩:∃ p,p=w.heap.size:=⟨_,rfl⟩
     obtain ⟨r,hr⟩:∃ r,r=w.heap.size+1:=⟨_,rfl⟩
     rw [←hr,←hp] at H0 ⊢
     clear hp hr
     generalize ((w.alloc (.cells #[.slice A l.length c,.slice A2 h.length c2] 31)).alloc (.cells #[.slice none 0 0,.slice none 0 0] 31))=w1 at*
     refine (HV.out _ _ H0.out.va).mono ?_
     rintro e w2 ⟨rfl,hb⟩
     have H1:=Lh (H0.out.below hb)
     clear hb
     obtain ⟨t0,t1,tl⟩:=H1.out.va.tb
     go_wp2_with fail
     clear t0 t1 tl
     refine (HFI.out _ _ H1.out.va).mono ?_
     rintro e w3 ⟨rfl,hb⟩
     have H2:=Lh (H1.out.below hb)
     clear hb
     obtain ⟨r0,r1,f0,f1,rl⟩:=H2.out.rt
     have HB:=Lh (show Below w.heap.size w (set2 w3 r (.slice none 0 0) (.slice none 0 0)) from set2_below H2.out.va.bel (by have:=H2.out.ne;omega))
     go_wp2
     exact bodyPost_ret (v:=.tuple #[.agg #[.slice none 0 0,.slice none 0 0],.int .i64 1]) (by simp only [results,Tryz.results141];go_simp <;> rfl) rfl (te_nil rfl rfl rfl HB.out)
    ·have hd2:1073741824<dl:=by omega
     clear hd
     go_enter Tryz.func141,Tryz.ntmps141
     obtain ⟨t0,t1,tl⟩:=H0.out.va.tb
     go_wp2_with fail
     clear t0 t1 tl
     obtain ⟨p,hp⟩:∃ p,p=w.heap.size:=⟨_,rfl⟩
     obtain ⟨r,hr⟩:∃ r,r=w.heap.size+1:=⟨_,rfl⟩
     rw [←hr,←hp] at H0 ⊢
     clear hp hr
     generalize ((w.alloc (.cells #[.slice A l.length c,.slice A2 h.length c2] 31)).alloc (.cells #[.slice none 0 0,.slice none 0 0] 31))=w1 at*
     refine (HV.out _ _ H0.out.va).mono ?_
     rintro e w2 ⟨rfl,hb⟩
     have H1:=Lh (H0.out.below hb)
     clear hb
     obtain ⟨t0,t1,tl⟩:=H1.out.va.tb
     go_wp2_with fail
     clear t0 t1 tl
     refine (HFI.out _ _ H1.out.va).mono ?_
     rintro e w3 ⟨rfl,hb⟩
     have H2:=Lh (H1.out.below hb)
     clear hb
     obtain ⟨r0,r1,f0,f1,rl⟩:=H2.out.rt
     have HB:=Lh (show Below w.heap.size w (set2 w3 r (.slice none 0 0) (.slice none 0 0)) from set2_below H2.out.va.bel (by have:=H2.out.ne;omega))
     go_wp2
     exact bodyPost_ret (v:=.tuple #[.agg #[.slice none 0 0,.slice none 0 0],.int .i64 1]) (by simp only [results,Tryz.results141];go_simp <;> rfl) rfl (te_nil rfl rfl rfl HB.out)
   ·have he:=exE_0 h0 hk0 hd
    obtain ⟨t,k,hk,hka,-,hH,hL⟩:=exE_at he
    have hfi:kFi Le.id l id=(k:Int):=by have:=(kAt_fi t.asc (x:=id) (by omega)).1;omega
    rw [hfi] at HFI
    have hrl:rlE l h id=0:=(exE_zero he).1
    have hpe:hpuE (rmR h id) ⟨dl,id⟩=0:=by rw [←exE_ok hrl];exact he
    rw [rlE_tb t] at hrl
    rw [hrl] at HRM
    have HPU:=Lh (fun A3 c3 W (q:Dl W W.heap.size (.slice A3 (rmR h id).length c3) (rmR h id))=>rpush5_any A3 (rmR h id).length c3 (rmR h id) ⟨dl,id⟩ W q)
    rw [←hH,hpe] at HPU
    rw [he,hL,lg_get hk]
    have hl12:l.length≤12:=t.len
    have HLS:=Lh (show (l.set k ((lg l k).till dl)).length=l.length from List.length_set)
    generalize exH l h id dl=K at*
    generalize rmR h id=K0 at*
    have HTE:=Lh (fun (W:World) (q cap:Nat) (hr:ERow W q l.length (lg l)) (hc:l.length≤cap) (hm:cap≤maxLen)=>till_el hr rfl hk dl hc hm)
    generalize l.set k ((lg l k).till dl)=LS at*
    have hk' : (k:Int)<(l.length:Int):=by omega
    have HK0:=Lh (show 0<l.length by omega)
    have hd1:¬dl<0:=by omega
    have hd2:¬1073741824<dl:=by omega
    have hk2:¬((k:Int)<0):=by omega
    obtain ⟨i0,hi0,hz0⟩:=Option.map_eq_some_iff.1 info_lease
    simp only [Prod.mk.injEq] at hz0
    have HI:=Lh hi0
    have HZ:=Lh hz0
    have HL12:=Lh hl12
    clear he t hka hH hL hfi hrl hpe h0 hk0 hd hi0 hz0
    go_enter Tryz.func141,Tryz.ntmps141
    obtain ⟨t0,t1,tl⟩:=H0.out.va.tb
    go_wp2_with fail
    clear t0 t1 tl
    obtain ⟨p,hp⟩:∃ p,p=w.heap.size:=⟨_,rfl⟩
    obtain ⟨r,hr⟩:∃ r,r=w.heap.size+1:=⟨_,rfl⟩
    rw [←hr,←hp] at H0 ⊢
    clear hp hr
    generalize ((w.alloc (.cells #[.slice A l.length c,.slice A2 h.length c2] 31)).alloc (.cells #[.slice none 0 0,.slice none 0 0] 31))=w1 at*
    refine (HV.out _ _ H0.out.va).mono ?_
    rintro e w2 ⟨rfl,hb⟩
    have H1:=Lh (H0.out.below hb)
    clear hb
    obtain ⟨t0,t1,tl⟩:=H1.out.va.tb
    go_wp2_with fail
    clear t0 t1 tl
    refine (HFI.out _ _ H1.out.va).mono ?_
    rintro e w3 ⟨rfl,hb⟩
    have H2:=Lh (H1.out.below hb)
    clear hb
    obtain ⟨t0,t1,tl⟩:=H2.out.va.tb
    go_wp2_with fail
    clear t0 t1 tl
    refine (HRM.out _ _ H2.out.va).mono ?_
    rintro e w4 ⟨A3,c3,rfl,hnw,hl,hb⟩
    have H3:=Lh (H2.out.below hb)
    have HK:=Lh hl
    clear hb hnw hl
    go_wp2_with fail
    refine (HPU.out _ _ _ HK.out).mono ?_
    rintro e w5 ⟨A5,c5,rfl,hnw,hl,hb⟩
    have H4:=Lh (H3.out.below hb)
    have HNW:=Lh (And.intro hnw (And.intro H3.out.rt.lt H3.out.va.bel.size))
    have HK:=Lh hl
    clear hb hnw hl
    have HRD:=Lh (HW.out.up H4.out.va.bel).rd
    obtain ⟨t0,t1,tl⟩:=H4.out.va.tb
    go_wp2_with (at_builtin;refine wpList_append_rd _ rfl _ _ 28 rfl w5.heap.size 58 i0 _ 8 72 Tryz.underlying28 HI.out HZ.out.1 HZ.out.2.1 HZ.out.2.2 rfl (by omega) (.slice none 0 0) 0 [] rfl (World.ownsRow_nil _ _ _ _) w5.heap.size A l.length c (ecs l) rfl HRD.out (ecs_one l) (by have:=HL12.out;unfold maxLen;omega) (by have:=HL12.out;omega) (Nat.le_refl _) ?_;intro v1 w6 hown1 hg1 hat1;rw [Nat.zero_add,List.nil_append] at hown1;obtain ⟨q,cap,cur,rfl,hq,hrw,hlc,hmc,-,-⟩:=Rw.of_own hown1 HK0.out;have hb:=below_nil hg1 rfl;have H5:=Lh (H4.out.below hb);have HK2:=Lh (HK.out.below hb);have HRW:=Lh (ERow.of_own hown1);have HQ:=Lh (And.intro hq (And.intro hlc hmc));have HQR:=Lh (show r<q from Nat.lt_of_lt_of_le H4.out.rt.lt hq);clear hb hown1 hrw hq hg1 hat1 t0 t1 tl;obtain ⟨r0,r1,f0,f1,rl⟩:=H5.out.rt;obtain ⟨x0,x1,x2,x3,x4,x5,x6,c7⟩:=HRW.out.c8 hk;have g7:=HRW.out.2.2 (k*8+7);have hrq:¬r=q:=(by have:=HQR.out;omega);have hqr:¬q=r:=(by have:=HQR.out;omega);clear x0 x1 x2 x3 x4 x5 x6)
    have HEL:=Lh (HTE.out _ _ _ HRW.out HQ.out.2.1 HQ.out.2.2)
    have HKL:=Lh (((HK2.out.setCell (p:=⟨q,k*8+7,none⟩) (show _≤q from HQ.out.1) (.int .i64 dl)).set2 (r:=r) (v:=.slice (some ⟨q,0,none⟩) l.length cap) (v2:=.slice A5 K.length c5) HNW.out.1 HNW.out.2.1).more (show w5.heap.size≤(set2 (w6.setCell ⟨q,k*8+7,none⟩ (.int .i64 dl)) r (.slice (some ⟨q,0,none⟩) l.length cap) (.slice A5 K.length c5)).heap.size by have:=HQ.out.1;have:=HRW.out.1;simp;omega))
    have HF:=Lh (show TE w LS K 0 (.returned (.tuple #[.agg #[.slice (some ⟨q,0,none⟩) l.length cap,.slice A5 K.length c5],.int .i64 0])) (set2 (w6.setCell ⟨q,k*8+7,none⟩ (.int .i64 dl)) r (.slice (some ⟨q,0,none⟩) l.length cap) (.slice A5 K.length c5)) from
     ⟨some ⟨q,0,none⟩,cap,A5,c5,by rw [HLS.out],nw_some (by have:=H4.out.va.bel.size;have:=HQ.out.1;omega),nw_low HNW.out.1 HNW.out.2.2,by rw [HLS.out];exact (HEL.out.set2 (lo:=w5.heap.size) (nw_some HQ.out.1) H4.out.rt.lt).more (by simp),HKL.out,set2_below (H5.out.va.bel.setCell (p:=⟨q,k*8+7,none⟩) (by have:=H4.out.va.bel.size;have:=HQ.out.1;show _≤q;omega) _) (by have:=H5.out.ne;omega)⟩)
    go_wp2
    exact bodyPost_ret (v:=.tuple #[.agg #[.slice (some ⟨q,0,none⟩) l.length cap,.slice A5 K.length c5],.int .i64 0]) (by simp only [results,Tryz.results141];go_simp <;> rfl) rfl HF.out
 ·have he:=exE_tb (id:=id) (dl:=dl) h0
  have HN:=Lh (exE_ne (l:=l) (h:=h) (id:=id) (dl:=dl) (by rw [he];exact h0))
  have hne:(tbV l h != 0)=true:=bne_iff_ne.2 h0
  rw [HN.out.1,HN.out.2,he]
  generalize tbV l h=x at*
  clear he h0 HN
  go_enter Tryz.func141,Tryz.ntmps141
  obtain ⟨t0,t1,tl⟩:=H0.out.va.tb
  go_wp2_with fail
  clear t0 t1 tl
  obtain ⟨p,hp⟩:∃ p,p=w.heap.size:=⟨_,rfl⟩
  obtain ⟨r,hr⟩:∃ r,r=w.heap.size+1:=⟨_,rfl⟩
  rw [←hr,←hp] at H0 ⊢
  clear hp hr
  generalize ((w.alloc (.cells #[.slice A l.length c,.slice A2 h.length c2] 31)).alloc (.cells #[.slice none 0 0,.slice none 0 0] 31))=w1 at*
  refine (HV.out _ _ H0.out.va).mono ?_
  rintro e w2 ⟨rfl,hb⟩
  have H1:=Lh (H0.out.below hb)
  clear hb
  obtain ⟨r0,r1,f0,f1,rl⟩:=H1.out.rt
  have HB:=Lh (show Below w.heap.size w (set2 w2 r (.slice none 0 0) (.slice none 0 0)) from set2_below H1.out.va.bel (by have:=H1.out.ne;omega))
  go_wp2
  exact bodyPost_ret (v:=.tuple #[.agg #[.slice none 0 0,.slice none 0 0],.int .i64 x]) (by simp only [results,Tryz.results141];go_simp <;> rfl) rfl (te_nil rfl rfl rfl HB.out)
set_option maxHeartbeats 8000000 in
set_option maxRecDepth 20000 in
theorem rchange7_any (S:Sh) (D:Sx) (H:Hn) (now ep vis:Int) (w:World) (hs:SR w w.heap.size S D) :
  Calls Tryz.prog 87 #[sv S D,H.v,.int .i64 now,.int .i64 ep,.int .i64 vis] w (SE8 w S D (if chgE S H now ep vis=0 then chgF S H.id (now+vis) else zS) (chgE S H now ep vis)):=by
 have e1:(w.alloc (.cells #[.bool S.lv,.int .i64 S.lo,.int .i64 S.hi,.slice D.A S.cs.length D.c,.int .i64 S.hd,.int .i64 S.sz,.slice D.A2 S.l.length D.c2,.slice D.A3 S.h.length D.c3] 33)).heap.size=w.heap.size+1:=by simp
 have e2:((w.alloc (.cells #[.bool S.lv,.int .i64 S.lo,.int .i64 S.hi,.slice D.A S.cs.length D.c,.int .i64 S.hd,.int .i64 S.sz,.slice D.A2 S.l.length D.c2,.slice D.A3 S.h.length D.c3] 33)).alloc (.cells #[.int .i64 H.id,.int .i64 H.gn,.int .i64 H.rt,.int .i64 H.ht] 40)).heap.size=w.heap.size+1+1:=by simp
 have H0:=Lh (((SAt.start 33 hs).alloc (.cells #[.int .i64 H.id,.int .i64 H.gn,.int .i64 H.rt,.int .i64 H.ht] 40)).alloc (.cells #[.bool false,.int .i64 0,.int .i64 0,.slice none 0 0,.int .i64 0,.int .i64 0,.slice none 0 0,.slice none 0 0] 33))
 have Q0:=Lh ((H4.start (w.alloc (.cells #[.bool S.lv,.int .i64 S.lo,.int .i64 S.hi,.slice D.A S.cs.length D.c,.int .i64 S.hd,.int .i64 S.sz,.slice D.A2 S.l.length D.c2,.slice D.A3 S.h.length D.c3] 33)) H 40).up ((Below.refl _ _).alloc (Nat.le_refl _) (.cells #[.bool false,.int .i64 0,.int .i64 0,.slice none 0 0,.int .i64 0,.int .i64 0,.slice none 0 0,.slice none 0 0] 33)))
 have R0:=Lh (SB8.zero ((w.alloc (.cells #[.bool S.lv,.int .i64 S.lo,.int .i64 S.hi,.slice D.A S.cs.length D.c,.int .i64 S.hd,.int .i64 S.sz,.slice D.A2 S.l.length D.c2,.slice D.A3 S.h.length D.c3] 33)).alloc (.cells #[.int .i64 H.id,.int .i64 H.gn,.int .i64 H.rt,.int .i64 H.ht] 40)) 33)
 rw [e1] at Q0
 rw [e2] at R0
 have HHE:=Lh (fun p W (k:SAt w p S D W)=>rheld7_any S D H now ep (wi vis 0 1000) W k.sr)
 have HNM:=Lh (fun h=>he_nums (S:=S) (H:=H) (now:=now) (ep:=ep) (b:=wi vis 0 1000) h)
 have HY0:Hid (chgE S H now ep vis=if heS S H now ep (wi vis 0 1000)≠0 then heS S H now ep (wi vis 0 1000) else if 1073741824<now+vis then 6 else 0):=Lh rfl
 have HVI:=Lh (fun (h:wi vis 0 1000=true)=>wi_of h)
 obtain ⟨y,hy⟩:∃ y,y=chgE S H now ep vis:=⟨_,rfl⟩
 rw [←hy] at HY0
 rw [←hy]
 clear hy
 obtain ⟨x,hx⟩:∃ x,x=heS S H now ep (wi vis 0 1000):=⟨_,rfl⟩
 rw [←hx] at HHE HNM HY0
 have HL:=Lh (fun W=>rvis_any vis W)
 have HO:=Lh (fun r (h:w.heap.size≤r)=>hs.offs h)
 have HRL:=Lh (fun p D W (q:SAt w p S D W)=>rtextend_any D.A2 S.l.length D.c2 S.l D.A3 S.h.length D.c3 S.h H.id (now+vis) W q.sr.el q.sr.dl)
 obtain ⟨T,hT⟩:∃ T,T=chgF S H.id (now+vis):=⟨_,rfl⟩
 obtain ⟨U,hU⟩:∃ U,U=if y=0 then chgF S H.id (now+vis) else zS:=⟨_,rfl⟩
 have HUU:=Lh (show U=if y=0 then T else zS from by rw [hU,hT])
 have HTT:=Lh (show T=⟨S.lv,S.lo,S.hi,S.cs,S.hd,S.sz,exL S.l S.h H.id (now+vis),exH S.l S.h H.id (now+vis)⟩ from hT)
 rw [←hU]
 clear hU hT hs hx
 generalize exL S.l S.h H.id (now+vis)=gl at*
 generalize exH S.l S.h H.id (now+vis)=gh at*
 generalize exE S.l S.h H.id (now+vis)=rE at*
 go_enter Tryz.func87,Tryz.ntmps87
 obtain ⟨p,hp⟩:∃ p,p=w.heap.size:=⟨_,rfl⟩
 obtain ⟨q,hq⟩:∃ q,q=w.heap.size+1:=⟨_,rfl⟩
 obtain ⟨r,hr⟩:∃ r,r=w.heap.size+1+1:=⟨_,rfl⟩
 have HPR:=Lh (show (¬p=r∧¬r=p∧¬p=q∧¬q=p)∧w.heap.size≤p∧p<q∧q<r by omega)
 go_upto_region 1 with (fail)
 rw [←hr,←hq,←hp]
 rw [←hr] at R0
 rw [←hq] at Q0
 rw [←hp] at H0
 clear e1 e2 hp hq hr
 generalize (((w.alloc (.cells #[.bool S.lv,.int .i64 S.lo,.int .i64 S.hi,.slice D.A S.cs.length D.c,.int .i64 S.hd,.int .i64 S.sz,.slice D.A2 S.l.length D.c2,.slice D.A3 S.h.length D.c3] 33)).alloc (.cells #[.int .i64 H.id,.int .i64 H.gn,.int .i64 H.rt,.int .i64 H.ht] 40)).alloc (.cells #[.bool false,.int .i64 0,.int .i64 0,.slice none 0 0,.int .i64 0,.int .i64 0,.slice none 0 0,.slice none 0 0] 33))=w1 at*
 have HD:=Lh H0.out.drew
 have QD:=Lh (Q0.out.up ((Below.refl _ _).drew))
 have RD:=Lh (R0.out.up ((Below.refl _ _).drew))
 have HT0:=Lh (show ChK p q S D H w1.drew from ChK.mk HD.out.k8 QD.out)
 generalize wi vis 0 1000=vb at*
 go_region_held3 (fun W=>ChK p q S D H W)
  (first | with_reducible exact HT0.out | with_reducible exact HT3.out)
  (first
  | (go_at_call 133;(with_reducible refine (HL.out _).mono ?_);rintro e w3 ⟨rfl,rfl⟩)
  | (go_at_call 138;(with_reducible refine (HHE.out _ _ HD.out).mono ?_);rintro e w2 ⟨rfl,hb⟩;have H1:=Lh (HD.out.below hb);have Q1:=Lh (QD.out.up hb);have R1:=Lh (RD.out.up hb);have HT3:=Lh (show ChK p q S D H w2 from ChK.mk H1.out.k8 Q1.out);clear hb))
 clear HD QD RD HT0 HT3 HL HHE H0 R0 Q0
 by_cases hx:x=0
 ·have HX:=Lh hx
  obtain ⟨hvb,⟨nn1,nn2⟩,-,-⟩:=HNM.out hx
  have hvi:=HVI.out hvb
  have hwr:wrap64 (now+vis)=now+vis:=IntWalk.wrap64_in _ (by omega)
  have HWR:=Lh hwr
  subst hx
  by_cases hdl:1073741824<now+vis
  ·have HYY:=Lh (show y=6 by rw [HY0.out,if_neg (by simp),if_pos hdl])
   have HF:=Lh (show SE8 w S D U y (.returned (.tuple #[.agg #[.bool false,.int .i64 0,.int .i64 0,.slice none 0 0,.int .i64 0,.int .i64 0,.slice none 0 0,.slice none 0 0],.int .i64 6])) (z8 w2 r) from by
    rw [HUU.out,HYY.out,if_neg (by decide)]
    have hne:=HPR.out.2
    exact (se_zero (by omega) H1.out.bel).to8)
   clear hwr
   obtain ⟨⟨r0,r1,r2,r3,r4,r5,r6,r7,rl⟩,⟨g0,g1,g2,g3,g4,g5,g6,g7⟩⟩:=R1.out.all
   go_wp2
   exact bodyPost_ret (v:=.tuple #[.agg #[.bool false,.int .i64 0,.int .i64 0,.slice none 0 0,.int .i64 0,.int .i64 0,.slice none 0 0,.slice none 0 0],.int .i64 6]) (by simp only [results,Tryz.results87];go_simp <;> rfl) rfl HF.out
  ·have HYY:=Lh (show y=0 by rw [HY0.out,if_neg (by simp),if_neg hdl])
   obtain ⟨t0,t1,t2,t3,t4,t5,t6,t7,tl⟩:=H1.out.s8.facts
   obtain ⟨q0,q1,q2,q3,ql⟩:=Q1.out
   go_wp2_with fail
   clear t0 t1 t2 t3 t4 t5 t6 t7 tl q0 q1 q2 q3 ql Q1 hwr
   refine (HRL.out _ _ _ H1.out).mono ?_
   rintro e w4 ⟨A3,c3,A4,c4,rfl,n3,n4,h3,h4,hb⟩
   have H4:=Lh (H1.out.below hb)
   have R4:=Lh (R1.out.up hb)
   have H5:=Lh (show SAt w p ⟨S.lv,S.lo,S.hi,S.cs,S.hd,S.sz,gl,gh⟩ ⟨D.A,D.c,A3,c3,A4,c4⟩ (((w4.setCell ⟨p,6,none⟩ (.slice A3 gl.length c3)).setCell ⟨p,7,none⟩ (.slice A4 gh.length c4))) from H4.out.setTab h3 h4 (offb_nw n3 H1.out.lt) (offb_nw n4 H1.out.lt))
   have N5:=Lh (show Nw (r+1) A3∧Nw (r+1) A4 from ⟨nw_low n3 R1.out.lt,nw_low n4 R1.out.lt⟩)
   clear n3 n4 h3 h4 hb
   have HF:=Lh (show SE8 w S D U y (.returned (.tuple #[.agg #[.bool S.lv,.int .i64 S.lo,.int .i64 S.hi,.slice D.A S.cs.length D.c,.int .i64 S.hd,.int .i64 S.sz,.slice A3 gl.length c3,.slice A4 gh.length c4],.int .i64 0])) (((((((((((w4.setCell ⟨p,6,none⟩ (.slice A3 gl.length c3)).setCell ⟨p,7,none⟩ (.slice A4 gh.length c4))).setCell ⟨r,0,none⟩ (.bool S.lv)).setCell ⟨r,1,none⟩ (.int .i64 S.lo)).setCell ⟨r,2,none⟩ (.int .i64 S.hi)).setCell ⟨r,3,none⟩ (.slice D.A S.cs.length D.c)).setCell ⟨r,4,none⟩ (.int .i64 S.hd)).setCell ⟨r,5,none⟩ (.int .i64 S.sz)).setCell ⟨r,6,none⟩ (.slice A3 gl.length c3)).setCell ⟨r,7,none⟩ (.slice A4 gh.length c4)) from by
    rw [HUU.out,if_pos HYY.out,HTT.out,HYY.out]
    have hne:=HPR.out.2
    exact ⟨⟨D.A,D.c,A3,c3,A4,c4⟩,rfl,SR.sets (S:=⟨S.lv,S.lo,S.hi,S.cs,S.hd,S.sz,gl,gh⟩) (D:=⟨D.A,D.c,A3,c3,A4,c4⟩) ⟨(HO.out r (by omega)).o1,offb_nw N5.out.1 (Nat.lt_succ_self r),offb_nw N5.out.2 (Nat.lt_succ_self r)⟩ (Sh.l8 ⟨S.lv,S.lo,S.hi,S.cs,S.hd,S.sz,gl,gh⟩ ⟨D.A,D.c,A3,c3,A4,c4⟩) 0 _ H5.out.sr,fun z hz hZ=>⟨hZ.o1,offb_nw N5.out.1 (show z<r+1 by omega),offb_nw N5.out.2 (show z<r+1 by omega)⟩,set8s_below (show w.heap.size≤r by omega) H5.out.bel ⟨S.lv,S.lo,S.hi,S.cs,S.hd,S.sz,gl,gh⟩ ⟨D.A,D.c,A3,c3,A4,c4⟩⟩)
   obtain ⟨⟨t0,t1,t2,t3,t4,t5,t6,t7,tl⟩,⟨f0,f1,f2,f3,f4,f5,f6,f7⟩⟩:=H4.out.s8.all
   obtain ⟨⟨r0,r1,r2,r3,r4,r5,r6,r7,rl⟩,⟨g0,g1,g2,g3,g4,g5,g6,g7⟩⟩:=R4.out.all
   obtain ⟨⟨hpr,hrp,hpq,hqp⟩,-,-,-⟩:=HPR.out
   go_wp2
   exact bodyPost_ret (v:=.tuple #[.agg #[.bool S.lv,.int .i64 S.lo,.int .i64 S.hi,.slice D.A S.cs.length D.c,.int .i64 S.hd,.int .i64 S.sz,.slice A3 gl.length c3,.slice A4 gh.length c4],.int .i64 0]) (by simp only [results,Tryz.results87];go_simp <;> rfl) rfl HF.out
 ·have hne:(x != 0)=true:=bne_iff_ne.2 hx
  have HYY:=Lh (show y=x by rw [HY0.out,if_pos hx])
  have HF:=Lh (show SE8 w S D U y (.returned (.tuple #[.agg #[.bool false,.int .i64 0,.int .i64 0,.slice none 0 0,.int .i64 0,.int .i64 0,.slice none 0 0,.slice none 0 0],.int .i64 x])) (z8 w2 r) from by
   rw [HUU.out,HYY.out,if_neg hx]
   have hne:=HPR.out.2
   exact (se_zero (by omega) H1.out.bel).to8)
  clear hx
  obtain ⟨⟨r0,r1,r2,r3,r4,r5,r6,r7,rl⟩,⟨g0,g1,g2,g3,g4,g5,g6,g7⟩⟩:=R1.out.all
  go_wp2
  exact bodyPost_ret (v:=.tuple #[.agg #[.bool false,.int .i64 0,.int .i64 0,.slice none 0 0,.int .i64 0,.int .i64 0,.slice none 0 0,.slice none 0 0],.int .i64 x]) (by simp only [results,Tryz.results87];go_simp <;> rfl) rfl HF.out
set_option maxHeartbeats 8000000 in
set_option maxRecDepth 20000 in
theorem rnack7_any (S:Sh) (D:Sx) (H:Hn) (now ep lim:Int) (w:World) (hs:SR w w.heap.size S D) :
  Calls Tryz.prog 86 #[sv S D,H.v,.int .i64 now,.int .i64 ep,.int .i64 lim] w (SE8 w S D (if heS S H now ep (wi lim 1 8)=0 then gbN S H.id lim else zS) (heS S H now ep (wi lim 1 8))):=by
 have e1:(w.alloc (.cells #[.bool S.lv,.int .i64 S.lo,.int .i64 S.hi,.slice D.A S.cs.length D.c,.int .i64 S.hd,.int .i64 S.sz,.slice D.A2 S.l.length D.c2,.slice D.A3 S.h.length D.c3] 33)).heap.size=w.heap.size+1:=by simp
 have e2:((w.alloc (.cells #[.bool S.lv,.int .i64 S.lo,.int .i64 S.hi,.slice D.A S.cs.length D.c,.int .i64 S.hd,.int .i64 S.sz,.slice D.A2 S.l.length D.c2,.slice D.A3 S.h.length D.c3] 33)).alloc (.cells #[.int .i64 H.id,.int .i64 H.gn,.int .i64 H.rt,.int .i64 H.ht] 40)).heap.size=w.heap.size+1+1:=by simp
 have H0:=Lh (((SAt.start 33 hs).alloc (.cells #[.int .i64 H.id,.int .i64 H.gn,.int .i64 H.rt,.int .i64 H.ht] 40)).alloc (.cells #[.bool false,.int .i64 0,.int .i64 0,.slice none 0 0,.int .i64 0,.int .i64 0,.slice none 0 0,.slice none 0 0] 33))
 have Q0:=Lh ((H4.start (w.alloc (.cells #[.bool S.lv,.int .i64 S.lo,.int .i64 S.hi,.slice D.A S.cs.length D.c,.int .i64 S.hd,.int .i64 S.sz,.slice D.A2 S.l.length D.c2,.slice D.A3 S.h.length D.c3] 33)) H 40).up ((Below.refl _ _).alloc (Nat.le_refl _) (.cells #[.bool false,.int .i64 0,.int .i64 0,.slice none 0 0,.int .i64 0,.int .i64 0,.slice none 0 0,.slice none 0 0] 33)))
 have R0:=Lh (SB8.zero ((w.alloc (.cells #[.bool S.lv,.int .i64 S.lo,.int .i64 S.hi,.slice D.A S.cs.length D.c,.int .i64 S.hd,.int .i64 S.sz,.slice D.A2 S.l.length D.c2,.slice D.A3 S.h.length D.c3] 33)).alloc (.cells #[.int .i64 H.id,.int .i64 H.gn,.int .i64 H.rt,.int .i64 H.ht] 40)) 33)
 rw [e1] at Q0
 rw [e2] at R0
 have HHE:=Lh (fun p W (k:SAt w p S D W)=>rheld7_any S D H now ep (wi lim 1 8) W k.sr)
 have HL:=Lh (fun W=>rlimits_any lim W)
 obtain ⟨x,hx⟩:∃ x,x=heS S H now ep (wi lim 1 8):=⟨_,rfl⟩
 rw [←hx] at HHE
 rw [←hx]
 have HO:=Lh (fun r (h:w.heap.size≤r)=>hs.offs h)
 have HRL:=Lh (fun p D W (q:SAt w p S D W)=>rtrelease_any D.A2 S.l.length D.c2 S.l D.A3 S.h.length D.c3 S.h H.id W q.sr.el q.sr.dl)
 obtain ⟨T,hT⟩:∃ T,T=gbN S H.id lim:=⟨_,rfl⟩
 obtain ⟨U,hU⟩:∃ U,U=if x=0 then gbN S H.id lim else zS:=⟨_,rfl⟩
 have HUU:=Lh (show U=if x=0 then T else zS from by rw [hU,hT])
 have HTT:=Lh (show T=⟨S.lv,S.lo,S.hi,nkC S.cs S.hd S.sz (rlM S.l S.h H.id) lim,nkH S.cs S.hd S.sz (rlM S.l S.h H.id) lim,ifE (puE S.cs S.hd S.sz (rlM S.l S.h H.id)) (S.sz+1),rlL S.l S.h H.id,rlH S.l S.h H.id⟩ from hT)
 rw [←hU]
 clear hU hT hs hx
 generalize rlL S.l S.h H.id=gl at*
 generalize rlH S.l S.h H.id=gh at*
 generalize rlE S.l S.h H.id=rE at*
 generalize rlM S.l S.h H.id=M at*
 have HSP:=Lh (fun W=>rspent_any M lim W)
 have HPB:=Lh (fun A3 c3 A4 c4 p W (q:SAt w p ⟨S.lv,S.lo,S.hi,S.cs,S.hd,S.sz,gl,gh⟩ ⟨D.A,D.c,A3,c3,A4,c4⟩ W)=>rpback_any D.A S.cs.length D.c S.cs S.hd S.sz M W q.sr.ls)
 have HPF:=Lh (fun A3 c3 A4 c4 p W (q:SAt w p ⟨S.lv,S.lo,S.hi,S.cs,S.hd,S.sz,gl,gh⟩ ⟨D.A,D.c,A3,c3,A4,c4⟩ W)=>rpfront_any D.A S.cs.length D.c S.cs S.hd S.sz M W q.sr.ls)
 go_enter Tryz.func86,Tryz.ntmps86
 obtain ⟨p,hp⟩:∃ p,p=w.heap.size:=⟨_,rfl⟩
 obtain ⟨q,hq⟩:∃ q,q=w.heap.size+1:=⟨_,rfl⟩
 obtain ⟨r,hr⟩:∃ r,r=w.heap.size+1+1:=⟨_,rfl⟩
 have HPR:=Lh (show (¬p=r∧¬r=p∧¬p=q∧¬q=p)∧w.heap.size≤p∧p<q∧q<r by omega)
 go_upto_region 1 with (fail)
 rw [←hr,←hq,←hp]
 rw [←hr] at R0
 rw [←hq] at Q0
 rw [←hp] at H0
 clear e1 e2 hp hq hr
 generalize (((w.alloc (.cells #[.bool S.lv,.int .i64 S.lo,.int .i64 S.hi,.slice D.A S.cs.length D.c,.int .i64 S.hd,.int .i64 S.sz,.slice D.A2 S.l.length D.c2,.slice D.A3 S.h.length D.c3] 33)).alloc (.cells #[.int .i64 H.id,.int .i64 H.gn,.int .i64 H.rt,.int .i64 H.ht] 40)).alloc (.cells #[.bool false,.int .i64 0,.int .i64 0,.slice none 0 0,.int .i64 0,.int .i64 0,.slice none 0 0,.slice none 0 0] 33))=w1 at*
 have HD:=Lh H0.out.drew
 have QD:=Lh (Q0.out.up ((Below.refl _ _).drew))
 have RD:=Lh (R0.out.up ((Below.refl _ _).drew))
 have HT0:=Lh (show ChK p q S D H w1.drew from ChK.mk HD.out.k8 QD.out)
 generalize wi lim 1 8=vb at*
 go_region_held3 (fun W=>ChK p q S D H W)
  (first | with_reducible exact HT0.out | with_reducible exact HT3.out)
  (first
  | (go_at_call 124;(with_reducible refine (HL.out _).mono ?_);rintro e w3 ⟨rfl,rfl⟩)
  | (go_at_call 138;(with_reducible refine (HHE.out _ _ HD.out).mono ?_);rintro e w2 ⟨rfl,hb⟩;have H1:=Lh (HD.out.below hb);have Q1:=Lh (QD.out.up hb);have R1:=Lh (RD.out.up hb);have HT3:=Lh (show ChK p q S D H w2 from ChK.mk H1.out.k8 Q1.out);clear hb))
 clear HD QD RD HT0 HT3 HL HHE H0 R0 Q0
 by_cases hx:x=0
 ·have HX:=Lh hx
  subst hx
  obtain ⟨t0,t1,t2,t3,t4,t5,t6,t7,tl⟩:=H1.out.s8.facts
  obtain ⟨q0,q1,q2,q3,ql⟩:=Q1.out
  go_wp2_with fail
  clear t0 t1 t2 t3 t4 t5 t6 t7 tl q0 q1 q2 q3 ql Q1
  refine (HRL.out _ _ _ H1.out).mono ?_
  rintro e w4 ⟨A3,c3,A4,c4,rfl,n3,n4,h3,h4,hb⟩
  have H4:=Lh (H1.out.below hb)
  have R4:=Lh (R1.out.up hb)
  have H5:=Lh (show SAt w p ⟨S.lv,S.lo,S.hi,S.cs,S.hd,S.sz,gl,gh⟩ ⟨D.A,D.c,A3,c3,A4,c4⟩ ((w4.setCell ⟨p,6,none⟩ (.slice A3 gl.length c3)).setCell ⟨p,7,none⟩ (.slice A4 gh.length c4)) from H4.out.setTab h3 h4 (offb_nw n3 H1.out.lt) (offb_nw n4 H1.out.lt))
  have R5:=Lh ((R4.out.other (q:=⟨p,6,none⟩) HPR.out.1.1 (.slice A3 gl.length c3)).other (q:=⟨p,7,none⟩) HPR.out.1.1 (.slice A4 gh.length c4))
  have N5:=Lh (show Nw (r+1) A3∧Nw (r+1) A4 from ⟨nw_low n3 R1.out.lt,nw_low n4 R1.out.lt⟩)
  have H6:=Lh ((H5.out.alloc (.cells #[.slice A3 gl.length c3,.slice A4 gh.length c4] 31)).alloc (.cells #[.int .i64 M.id,.int .i64 M.rt,.int .i64 M.ep,.int .i64 M.ct,.int .i64 M.gn,.int .i64 M.st,.string M.bd] 56))
  have R6:=Lh ((R5.out.up ((Below.refl _ _).alloc (Nat.le_refl _) (.cells #[.slice A3 gl.length c3,.slice A4 gh.length c4] 31))).up ((Below.refl _ _).alloc (Nat.le_refl _) (.cells #[.int .i64 M.id,.int .i64 M.rt,.int .i64 M.ep,.int .i64 M.ct,.int .i64 M.gn,.int .i64 M.st,.string M.bd] 56)))
  have HM6:=Lh (MBx.start (((w4.setCell ⟨p,6,none⟩ (.slice A3 gl.length c3)).setCell ⟨p,7,none⟩ (.slice A4 gh.length c4)).alloc (.cells #[.slice A3 gl.length c3,.slice A4 gh.length c4] 31)) M 56)
  rw [show (((w4.setCell ⟨p,6,none⟩ (.slice A3 gl.length c3)).setCell ⟨p,7,none⟩ (.slice A4 gh.length c4)).alloc (.cells #[.slice A3 gl.length c3,.slice A4 gh.length c4] 31)).heap.size=w4.heap.size+1 by simp] at HM6
  clear n3 n4 h3 h4 hb
  obtain ⟨⟨t0,t1,t2,t3,t4,t5,t6,t7,tl⟩,⟨f0,f1,f2,f3,f4,f5,f6,f7⟩⟩:=H4.out.s8.all
  obtain ⟨⟨hpr,hrp,hpq,hqp⟩,-,-,-⟩:=HPR.out
  go_wp2_with fail
  clear t0 t1 t2 t3 t4 t5 t6 t7 tl f0 f1 f2 f3 f4 f5 f6 f7 hpr hrp hpq hqp H4 R4 H5 R5 H1 R1
  generalize ((((w4.setCell ⟨p,6,none⟩ (.slice A3 gl.length c3)).setCell ⟨p,7,none⟩ (.slice A4 gh.length c4)).alloc (.cells #[.slice A3 gl.length c3,.slice A4 gh.length c4] 31)).alloc (.cells #[.int .i64 M.id,.int .i64 M.rt,.int .i64 M.ep,.int .i64 M.ct,.int .i64 M.gn,.int .i64 M.st,.string M.bd] 56))=w6 at*
  generalize w4.heap.size+1=mb at*
  generalize w4.heap.size=tb at*
  cases hsp:spF M lim with
  | true=>
   have HC:=Lh (show nkC S.cs S.hd S.sz M lim=pbC S.cs S.hd S.sz M∧nkH S.cs S.hd S.sz M lim=ifE (puE S.cs S.hd S.sz M) S.hd by unfold nkC nkH;rw [hsp];exact ⟨rfl,rfl⟩)
   rw [hsp] at HSP
   rw [HC.out.1,HC.out.2] at HTT
   generalize pbC S.cs S.hd S.sz M=cs at*
   generalize ifE (puE S.cs S.hd S.sz M) S.hd=hd at*
   generalize ifE (puE S.cs S.hd S.sz M) (S.sz+1)=sz at*
   generalize puE S.cs S.hd S.sz M=pE at*
   clear hsp HC
   refine (HSP.out _).mono ?_
   rintro e w7 ⟨rfl,hb⟩
   have H7:=Lh (H6.out.below hb)
   have R7:=Lh (R6.out.up hb)
   have M7:=Lh (HM6.out.up hb)
   clear hb H6 R6 HM6
   obtain ⟨t0,t1,t2,t3,t4,t5,t6,t7,tl⟩:=H7.out.s8.facts
   obtain ⟨⟨x0,x1,x2,x3,x4,x5,x6⟩,-,hbl⟩:=M7.out
   go_wp2_with fail
   clear t0 t1 t2 t3 t4 t5 t6 t7 tl x0 x1 x2 x3 x4 x5 x6 hbl M7
   refine (HPB.out _ _ _ _ _ _ H7.out).mono ?_
   rintro e w8 ⟨A5,c5,rfl,n5,h5,hb⟩
   have H8:=Lh (H7.out.below hb)
   have R8:=Lh (R7.out.up hb)
   have H9:=Lh (show SAt w p ⟨S.lv,S.lo,S.hi,cs,hd,sz,gl,gh⟩ ⟨A5,c5,A3,c3,A4,c4⟩ (((w8.setCell ⟨p,3,none⟩ (.slice A5 cs.length c5)).setCell ⟨p,4,none⟩ (.int .i64 hd)).setCell ⟨p,5,none⟩ (.int .i64 sz)) from H8.out.setRing hd sz h5 (offb_nw n5 H7.out.lt))
   have N9:=Lh (show Nw (r+1) A5 from nw_low n5 R7.out.lt)
   clear n5 h5 hb
   have HF:=Lh (show SE8 w S D U 0 (.returned (.tuple #[.agg #[.bool S.lv,.int .i64 S.lo,.int .i64 S.hi,.slice A5 cs.length c5,.int .i64 hd,.int .i64 sz,.slice A3 gl.length c3,.slice A4 gh.length c4],.int .i64 0])) (((((((((((w8.setCell ⟨p,3,none⟩ (.slice A5 cs.length c5)).setCell ⟨p,4,none⟩ (.int .i64 hd)).setCell ⟨p,5,none⟩ (.int .i64 sz)).setCell ⟨r,0,none⟩ (.bool S.lv)).setCell ⟨r,1,none⟩ (.int .i64 S.lo)).setCell ⟨r,2,none⟩ (.int .i64 S.hi)).setCell ⟨r,3,none⟩ (.slice A5 cs.length c5)).setCell ⟨r,4,none⟩ (.int .i64 hd)).setCell ⟨r,5,none⟩ (.int .i64 sz)).setCell ⟨r,6,none⟩ (.slice A3 gl.length c3)).setCell ⟨r,7,none⟩ (.slice A4 gh.length c4)) from by
    rw [HUU.out,if_pos trivial,HTT.out]
    have hne:=HPR.out.2
    exact ⟨⟨A5,c5,A3,c3,A4,c4⟩,rfl,SR.sets (S:=⟨S.lv,S.lo,S.hi,cs,hd,sz,gl,gh⟩) (D:=⟨A5,c5,A3,c3,A4,c4⟩) ⟨offb_nw N9.out (Nat.lt_succ_self r),offb_nw N5.out.1 (Nat.lt_succ_self r),offb_nw N5.out.2 (Nat.lt_succ_self r)⟩ (Sh.l8 ⟨S.lv,S.lo,S.hi,cs,hd,sz,gl,gh⟩ ⟨A5,c5,A3,c3,A4,c4⟩) 0 _ H9.out.sr,fun z hz hZ=>⟨offb_nw N9.out (show z<r+1 by omega),offb_nw N5.out.1 (show z<r+1 by omega),offb_nw N5.out.2 (show z<r+1 by omega)⟩,set8s_below (show w.heap.size≤r by omega) H9.out.bel ⟨S.lv,S.lo,S.hi,cs,hd,sz,gl,gh⟩ ⟨A5,c5,A3,c3,A4,c4⟩⟩)
   obtain ⟨⟨t0,t1,t2,t3,t4,t5,t6,t7,tl⟩,⟨f0,f1,f2,f3,f4,f5,f6,f7⟩⟩:=H8.out.s8.all
   obtain ⟨⟨r0,r1,r2,r3,r4,r5,r6,r7,rl⟩,⟨g0,g1,g2,g3,g4,g5,g6,g7⟩⟩:=R8.out.all
   obtain ⟨⟨hpr,hrp,hpq,hqp⟩,-,-,-⟩:=HPR.out
   go_wp2
   exact bodyPost_ret (v:=.tuple #[.agg #[.bool S.lv,.int .i64 S.lo,.int .i64 S.hi,.slice A5 cs.length c5,.int .i64 hd,.int .i64 sz,.slice A3 gl.length c3,.slice A4 gh.length c4],.int .i64 0]) (by simp only [results,Tryz.results86];go_simp <;> rfl) rfl HF.out
  | false=>
   have HC:=Lh (show nkC S.cs S.hd S.sz M lim=pfC S.cs S.hd S.sz M∧nkH S.cs S.hd S.sz M lim=pfH S.cs S.hd S.sz M by unfold nkC nkH;rw [hsp];exact ⟨rfl,rfl⟩)
   rw [hsp] at HSP
   rw [HC.out.1,HC.out.2] at HTT
   generalize pfC S.cs S.hd S.sz M=cs at*
   generalize pfH S.cs S.hd S.sz M=hd at*
   generalize ifE (puE S.cs S.hd S.sz M) (S.sz+1)=sz at*
   generalize puE S.cs S.hd S.sz M=pE at*
   clear hsp HC
   refine (HSP.out _).mono ?_
   rintro e w7 ⟨rfl,hb⟩
   have H7:=Lh (H6.out.below hb)
   have R7:=Lh (R6.out.up hb)
   have M7:=Lh (HM6.out.up hb)
   clear hb H6 R6 HM6
   obtain ⟨t0,t1,t2,t3,t4,t5,t6,t7,tl⟩:=H7.out.s8.facts
   obtain ⟨⟨x0,x1,x2,x3,x4,x5,x6⟩,-,hbl⟩:=M7.out
   go_wp2_with fail
   clear t0 t1 t2 t3 t4 t5 t6 t7 tl x0 x1 x2 x3 x4 x5 x6 hbl M7
   refine (HPF.out _ _ _ _ _ _ H7.out).mono ?_
   rintro e w8 ⟨A5,c5,rfl,n5,h5,hb⟩
   have H8:=Lh (H7.out.below hb)
   have R8:=Lh (R7.out.up hb)
   have H9:=Lh (show SAt w p ⟨S.lv,S.lo,S.hi,cs,hd,sz,gl,gh⟩ ⟨A5,c5,A3,c3,A4,c4⟩ (((w8.setCell ⟨p,3,none⟩ (.slice A5 cs.length c5)).setCell ⟨p,4,none⟩ (.int .i64 hd)).setCell ⟨p,5,none⟩ (.int .i64 sz)) from H8.out.setRing hd sz h5 (offb_nw n5 H7.out.lt))
   have N9:=Lh (show Nw (r+1) A5 from nw_low n5 R7.out.lt)
   clear n5 h5 hb
   have HF:=Lh (show SE8 w S D U 0 (.returned (.tuple #[.agg #[.bool S.lv,.int .i64 S.lo,.int .i64 S.hi,.slice A5 cs.length c5,.int .i64 hd,.int .i64 sz,.slice A3 gl.length c3,.slice A4 gh.length c4],.int .i64 0])) (((((((((((w8.setCell ⟨p,3,none⟩ (.slice A5 cs.length c5)).setCell ⟨p,4,none⟩ (.int .i64 hd)).setCell ⟨p,5,none⟩ (.int .i64 sz)).setCell ⟨r,0,none⟩ (.bool S.lv)).setCell ⟨r,1,none⟩ (.int .i64 S.lo)).setCell ⟨r,2,none⟩ (.int .i64 S.hi)).setCell ⟨r,3,none⟩ (.slice A5 cs.length c5)).setCell ⟨r,4,none⟩ (.int .i64 hd)).setCell ⟨r,5,none⟩ (.int .i64 sz)).setCell ⟨r,6,none⟩ (.slice A3 gl.length c3)).setCell ⟨r,7,none⟩ (.slice A4 gh.length c4)) from by
    rw [HUU.out,if_pos trivial,HTT.out]
    have hne:=HPR.out.2
    exact ⟨⟨A5,c5,A3,c3,A4,c4⟩,rfl,SR.sets (S:=⟨S.lv,S.lo,S.hi,cs,hd,sz,gl,gh⟩) (D:=⟨A5,c5,A3,c3,A4,c4⟩) ⟨offb_nw N9.out (Nat.lt_succ_self r),offb_nw N5.out.1 (Nat.lt_succ_self r),offb_nw N5.out.2 (Nat.lt_succ_self r)⟩ (Sh.l8 ⟨S.lv,S.lo,S.hi,cs,hd,sz,gl,gh⟩ ⟨A5,c5,A3,c3,A4,c4⟩) 0 _ H9.out.sr,fun z hz hZ=>⟨offb_nw N9.out (show z<r+1 by omega),offb_nw N5.out.1 (show z<r+1 by omega),offb_nw N5.out.2 (show z<r+1 by omega)⟩,set8s_below (show w.heap.size≤r by omega) H9.out.bel ⟨S.lv,S.lo,S.hi,cs,hd,sz,gl,gh⟩ ⟨A5,c5,A3,c3,A4,c4⟩⟩)
   obtain ⟨⟨t0,t1,t2,t3,t4,t5,t6,t7,tl⟩,⟨f0,f1,f2,f3,f4,f5,f6,f7⟩⟩:=H8.out.s8.all
   obtain ⟨⟨r0,r1,r2,r3,r4,r5,r6,r7,rl⟩,⟨g0,g1,g2,g3,g4,g5,g6,g7⟩⟩:=R8.out.all
   obtain ⟨⟨hpr,hrp,hpq,hqp⟩,-,-,-⟩:=HPR.out
   go_wp2
   exact bodyPost_ret (v:=.tuple #[.agg #[.bool S.lv,.int .i64 S.lo,.int .i64 S.hi,.slice A5 cs.length c5,.int .i64 hd,.int .i64 sz,.slice A3 gl.length c3,.slice A4 gh.length c4],.int .i64 0]) (by simp only [results,Tryz.results86];go_simp <;> rfl) rfl HF.out
 ·have hne:(x != 0)=true:=bne_iff_ne.2 hx
  have HF:=Lh (show SE8 w S D U x (.returned (.tuple #[.agg #[.bool false,.int .i64 0,.int .i64 0,.slice none 0 0,.int .i64 0,.int .i64 0,.slice none 0 0,.slice none 0 0],.int .i64 x])) (z8 w2 r) from by
   rw [HUU.out,if_neg hx]
   have hne:=HPR.out.2
   exact (se_zero (by omega) H1.out.bel).to8)
  clear hx
  obtain ⟨⟨r0,r1,r2,r3,r4,r5,r6,r7,rl⟩,⟨g0,g1,g2,g3,g4,g5,g6,g7⟩⟩:=R1.out.all
  go_wp2
  exact bodyPost_ret (v:=.tuple #[.agg #[.bool false,.int .i64 0,.int .i64 0,.slice none 0 0,.int .i64 0,.int .i64 0,.slice none 0 0,.slice none 0 0],.int .i64 x]) (by simp only [results,Tryz.results86];go_simp <;> rfl) rfl HF.out
end Go.Proofs.YtncgbldcjfbknaaGreat
