/- What is proved here: shard.putError by a contract; due.Remove by a contract; lease.removed, lease.Release by contracts; shard.clone by a contract. -/
import Derived.Test.YtdobenkkkkaipaaGreatJ23
namespace Go.Proofs.YtdobenkkkkaipaaGreat
open Go.RowKit
set_option linter.unusedVariables false
noncomputable def puS (S:Sh) (M:Msg):Int:=if exS S true≠0 then exS S true else if vf M≠0 then vf M else if wi M.rt S.lo S.hi=false then 12 else if S.sz+S.l.length=S.cs.length then 3 else if dpB (S.al++[M])=true then 10 else 0
section
variable {S:Sh} {M:Msg}
theorem puS_ex (h:exS S true≠0):puS S M=exS S true:=if_pos h
theorem puS_vf (h:exS S true=0) (h1:vf M≠0):puS S M=vf M:=by unfold puS;rw [if_neg (fun g=>g h),if_pos h1]
theorem puS_12 (h:exS S true=0) (h1:vf M=0) (h2:wi M.rt S.lo S.hi=false):puS S M=12:=by unfold puS;rw [if_neg (fun g=>g h),if_neg (fun g=>g h1),if_pos h2]
theorem puS_3 (h:exS S true=0) (h1:vf M=0) (h2:wi M.rt S.lo S.hi=true) (h3:S.sz+S.l.length=S.cs.length):puS S M=3:=by unfold puS;rw [if_neg (fun g=>g h),if_neg (fun g=>g h1),if_neg (by simp [h2]),if_pos h3]
theorem puS_10 (h:exS S true=0) (h1:vf M=0) (h2:wi M.rt S.lo S.hi=true) (h3:¬S.sz+S.l.length=S.cs.length) (h4:dpB (S.al++[M])=true):puS S M=10:=by unfold puS;rw [if_neg (fun g=>g h),if_neg (fun g=>g h1),if_neg (by simp [h2]),if_neg h3,if_pos h4]
theorem puS_0 (h:exS S true=0) (h1:vf M=0) (h2:wi M.rt S.lo S.hi=true) (h3:¬S.sz+S.l.length=S.cs.length) (h4:dpB (S.al++[M])=false):puS S M=0:=by unfold puS;rw [if_neg (fun g=>g h),if_neg (fun g=>g h1),if_neg (by simp [h2]),if_neg h3,if_neg (by simp [h4])]
end
abbrev M7 (q:Nat) (M:Msg) (W:World):Prop:=W.cell? ⟨q,0,none⟩=some (.int .i64 M.id)∧W.cell? ⟨q,1,none⟩=some (.int .i64 M.rt)∧W.cell? ⟨q,2,none⟩=some (.int .i64 M.ep)∧W.cell? ⟨q,3,none⟩=some (.int .i64 M.ct)∧W.cell? ⟨q,4,none⟩=some (.int .i64 M.gn)∧W.cell? ⟨q,5,none⟩=some (.int .i64 M.st)∧W.cell? ⟨q,6,none⟩=some (.string M.bd)
structure MBx (W:World) (q:Nat) (M:Msg):Prop where
 m7:M7 q M W
 fr:∀ o,W.frozen? ⟨q,o,none⟩=false
 lt:q<W.heap.size
theorem MBx.keep {W W' : World} {q:Nat} {M:Msg} (h:MBx W q M) (hc:∀ o,W'.cell? ⟨q,o,none⟩=W.cell? ⟨q,o,none⟩) (hf:∀ o,W'.frozen? ⟨q,o,none⟩=W.frozen? ⟨q,o,none⟩) (hs:W.heap.size≤W'.heap.size):MBx W' q M:=by
 obtain ⟨⟨h0,h1,h2,h3,h4,h5,h6⟩,hfr,hl⟩:=h
 exact ⟨⟨(hc 0).trans h0,(hc 1).trans h1,(hc 2).trans h2,(hc 3).trans h3,(hc 4).trans h4,(hc 5).trans h5,(hc 6).trans h6⟩,fun o=>(hf o).trans (hfr o),Nat.lt_of_lt_of_le hl hs⟩
theorem MBx.up {W W' : World} {q:Nat} {M:Msg} (h:MBx W q M) (hb:Below W.heap.size W W'):MBx W' q M:=h.keep (fun o=>hb.cell (p:=⟨q,o,none⟩) h.lt) (fun o=>hb.frozen (p:=⟨q,o,none⟩) h.lt) hb.size
theorem MBx.grown {W W' : World} {q:Nat} {M:Msg} (h:MBx W q M) {row:Option Nat} (hg:W.grownBy W' row) (hr:∀ x,row=some x→x≠q):MBx W' q M:=
 h.keep (fun o=>hg.cell_far ⟨q,o,none⟩ h.lt (fun e=>hr q e.symm rfl)) (fun o=>hg.frozen_far ⟨q,o,none⟩ h.lt (fun e=>hr q e.symm rfl)) hg.size
theorem MBx.start (w:World) (M:Msg) (t:TypeId):MBx (w.alloc (.cells #[.int .i64 M.id,.int .i64 M.rt,.int .i64 M.ep,.int .i64 M.ct,.int .i64 M.gn,.int .i64 M.st,.string M.bd] t)) w.heap.size M:=
 ⟨⟨by simp [go_sem],by simp [go_sem],by simp [go_sem],by simp [go_sem],by simp [go_sem],by simp [go_sem],by simp [go_sem]⟩,fun o=>by simp [go_sem],by simp⟩
theorem SB8.grown {W W' : World} {p:Nat} {S:Sh} {D:Sx} (h:SB8 W p S D) {row:Option Nat} (hg:W.grownBy W' row) (hr:∀ x,row=some x→x≠p):SB8 W' p S D:=
 h.keep (fun o=>hg.cell_far ⟨p,o,none⟩ h.lt (fun e=>hr p e.symm rfl)) (fun o=>hg.frozen_far ⟨p,o,none⟩ h.lt (fun e=>hr p e.symm rfl)) hg.size
structure SmAt (w:World) (p q:Nat) (S:Sh) (D:Sx) (M:Msg) (W:World):Prop where
 sa:SAt w p S D W
 mb:MBx W q M
 lt:p<q
theorem SmAt.below {w W W' : World} {p q:Nat} {S:Sh} {D:Sx} {M:Msg} (h:SmAt w p q S D M W) (hb:Below W.heap.size W W'):SmAt w p q S D M W':=⟨h.sa.below hb,h.mb.up hb,h.lt⟩
theorem SmAt.alloc {w W:World} {p q:Nat} {S:Sh} {D:Sx} {M:Msg} (h:SmAt w p q S D M W) (o:Obj):SmAt w p q S D M (W.alloc o):=h.below ((Below.refl _ _).alloc (Nat.le_refl _) o)
theorem SmAt.drew {w W:World} {p q:Nat} {S:Sh} {D:Sx} {M:Msg} (h:SmAt w p q S D M W):SmAt w p q S D M W.drew:=h.below ((Below.refl _ _).drew)
theorem SmAt.k {w W:World} {p q:Nat} {S:Sh} {D:Sx} {M:Msg} (h:SmAt w p q S D M W):K8 p S D W∧M7 q M W:=⟨h.sa.k8,h.mb.m7⟩
theorem SmAt.start (w:World) (S:Sh) (D:Sx) (M:Msg) (t u:TypeId) (hs:SR w w.heap.size S D):SmAt w w.heap.size (w.heap.size+1) S D M ((w.alloc (.cells #[.bool S.lv,.int .i64 S.lo,.int .i64 S.hi,.slice D.A S.cs.length D.c,.int .i64 S.hd,.int .i64 S.sz,.slice D.A2 S.l.length D.c2,.slice D.A3 S.h.length D.c3] t)).alloc (.cells #[.int .i64 M.id,.int .i64 M.rt,.int .i64 M.ep,.int .i64 M.ct,.int .i64 M.gn,.int .i64 M.st,.string M.bd] u)):=by
 have h:=MBx.start (w.alloc (.cells #[.bool S.lv,.int .i64 S.lo,.int .i64 S.hi,.slice D.A S.cs.length D.c,.int .i64 S.hd,.int .i64 S.sz,.slice D.A2 S.l.length D.c2,.slice D.A3 S.h.length D.c3] t)) M u
 rw [show (w.alloc (.cells #[.bool S.lv,.int .i64 S.lo,.int .i64 S.hi,.slice D.A S.cs.length D.c,.int .i64 S.hd,.int .i64 S.sz,.slice D.A2 S.l.length D.c2,.slice D.A3 S.h.length D.c3] t)).heap.size=w.heap.size+1 by simp] at h
 exact ⟨(SAt.start t hs).alloc _,h,Nat.lt_succ_self _⟩
theorem SmAt.grown {w W W' : World} {p q lo:Nat} {S:Sh} {D:Sx} {M:Msg} (h:SmAt w p q S D M W) {row:Option Nat} (hg:W.grownBy W' row) (hr:∀ x,row=some x→lo≤x) (hq:q<lo):(K8 p S D W'∧M7 q M W')∧Below w.heap.size w W':=
 ⟨⟨(h.sa.s8.grown hg (fun x e=>by have:=hr x e;have:=h.lt;omega)).k8,(h.mb.grown hg (fun x e=>by have:=hr x e;omega)).m7⟩,h.sa.bel.grown hg h.sa.bel.size (fun x e=>by have:=hr x e;have:=h.sa.old;have:=h.lt;omega)⟩
theorem row_keep {W W' : World} {M:Msg} {g:Nat} (hc:∀ j u,M.l[j]? = some u→W.cell? ((⟨g,0,none⟩:Addr).add j)=some u) (hg:g<W.heap.size) (hb:Below W.heap.size W W'):∀ j u,M.l[j]? = some u→W'.cell? ((⟨g,0,none⟩:Addr).add j)=some u:=fun j u hu=>by
 have:=hc j u hu
 rw [add_mk] at this ⊢
 exact (hb.cell (p:=⟨g,0+j,none⟩) hg).trans this
theorem k_up {W W' : World} {p q:Nat} {S:Sh} {D:Sx} {M:Msg} (h:K8 p S D W∧M7 q M W) (hp:p<W.heap.size) (hq:q<W.heap.size) (hb:Below W.heap.size W W'):K8 p S D W'∧M7 q M W':=by
 obtain ⟨⟨h0,h1,h2,h3,h4,h5,h6,h7⟩,⟨m0,m1,m2,m3,m4,m5,m6⟩⟩:=h
 have c:∀ o,W'.cell? ⟨p,o,none⟩=W.cell? ⟨p,o,none⟩:=fun o=>hb.cell (p:=⟨p,o,none⟩) hp
 have d:∀ o,W'.cell? ⟨q,o,none⟩=W.cell? ⟨q,o,none⟩:=fun o=>hb.cell (p:=⟨q,o,none⟩) hq
 exact ⟨⟨(c 0).trans h0,(c 1).trans h1,(c 2).trans h2,(c 3).trans h3,(c 4).trans h4,(c 5).trans h5,(c 6).trans h6,(c 7).trans h7⟩,⟨(d 0).trans m0,(d 1).trans m1,(d 2).trans m2,(d 3).trans m3,(d 4).trans m4,(d 5).trans m5,(d 6).trans m6⟩⟩
theorem sal_le {S:Sh} (h:S.l.length≤12):S.al.length≤24:=by
 have:=lsF_le S.cs S.hd S.sz
 unfold Sh.al
 simp;omega
set_option maxHeartbeats 8000000 in
set_option maxRecDepth 20000 in
theorem sputerr_any (S:Sh) (D:Sx) (M:Msg) (w:World) (hs:SR w w.heap.size S D) :
  Calls Tryz.prog 74 #[sv S D,M.v] w (VlT w (puS S M)):=by
 obtain ⟨i0,hi0,hz0⟩:=Option.map_eq_some_iff.1 info_msg
 simp only [Prod.mk.injEq] at hz0
 have HI:=Lh hi0
 have HZ:=Lh hz0
 have H0:=Lh (SmAt.start w S D M 33 44 hs)
 have HV:=Lh (fun p W (k:SAt w p S D W)=>sexam_any S D none 0 0 [] W k.sr Nl.nil)
 have HE:([]:List Rn).all Rn.ok=true:=rfl
 rw [HE] at HV
 have HM:=Lh (fun W=>validate_any M W)
 have HH:=Lh (fun W=>shas_any S D M.rt W)
 clear hs HE hi0 hz0
 go_enter Tryz.func74,Tryz.ntmps74
 obtain ⟨t0,t1,t2,t3,t4,t5,t6,t7,tl⟩:=H0.out.sa.s8.facts
 go_wp2_with fail
 clear t0 t1 t2 t3 t4 t5 t6 t7 tl
 obtain ⟨p,hp⟩:∃ p,p=w.heap.size:=⟨_,rfl⟩
 obtain ⟨q,hq⟩:∃ q,q=w.heap.size+1:=⟨_,rfl⟩
 rw [←hq,←hp]
 rw [←hq,←hp] at H0
 clear hp hq
 generalize ((w.alloc (.cells #[.bool S.lv,.int .i64 S.lo,.int .i64 S.hi,.slice D.A S.cs.length D.c,.int .i64 S.hd,.int .i64 S.sz,.slice D.A2 S.l.length D.c2,.slice D.A3 S.h.length D.c3] 33)).alloc (.cells #[.int .i64 M.id,.int .i64 M.rt,.int .i64 M.ep,.int .i64 M.ct,.int .i64 M.gn,.int .i64 M.st,.string M.bd] 44))=w1 at*
 refine (HV.out _ _ H0.out.sa).mono ?_
 rintro e w2 ⟨rfl,hb⟩
 have H1:=Lh (H0.out.below hb)
 clear hb
 by_cases h1:exS S true=0
 ·have HN:=Lh (ex_nums h1)
  have HSZ:=Lh (fun W=>ssize_any S D W HN.out.2.2.1 (by have:=HN.out;omega) (by have:=HN.out;omega))
  have HCA:=Lh (fun W=>scap_any S D W)
  have HMS:=Lh (fun p W (k:SAt w p S D W)=>smsgs_any S D W k.sr (by have:=HN.out;omega))
  have HX1:=Lh h1
  rw [h1]
  clear h1
  obtain ⟨v0,v1,v2,v3,v4,v5,v6⟩:=H1.out.mb.m7
  have vl:=H1.out.mb.lt
  go_wp2_with fail
  clear v0 v1 v2 v3 v4 v5 v6 vl
  refine (HM.out _).mono ?_
  rintro e w3 ⟨rfl,hb⟩
  have H2:=Lh (H1.out.below hb)
  clear hb
  by_cases h2:vf M=0
  ·have HX2:=Lh h2
   rw [h2]
   clear h2
   obtain ⟨v0,v1,v2,v3,v4,v5,v6⟩:=H2.out.mb.m7
   have vl:=H2.out.mb.lt
   obtain ⟨t0,t1,t2,t3,t4,t5,t6,t7,tl⟩:=H2.out.sa.s8.facts
   go_wp2_with fail
   clear v0 v1 v2 v3 v4 v5 v6 vl t0 t1 t2 t3 t4 t5 t6 t7 tl
   refine (HH.out _).mono ?_
   rintro e w4 ⟨rfl,hb⟩
   have H3:=Lh (H2.out.below hb)
   clear hb
   cases h3:wi M.rt S.lo S.hi with
   | false=>
    have HX:=Lh (puS_12 HX1.out HX2.out h3)
    clear h3
    go_wp2
    go_ret
    exact ⟨by rw [HX.out];rfl,H3.out.sa.bel⟩
   | true=>
    have HX3:=Lh h3
    clear h3
    have HD:=Lh H3.out.drew
    have HT0:=Lh (show K8 p S D w4.drew from HD.out.sa.k8)
    obtain ⟨t0,t1,t2,t3,t4,t5,t6,t7,tl⟩:=HD.out.sa.s8.facts
    go_wp2_with fail
    obtain ⟨b4,hb4⟩:∃ b:Bool,b=(S.sz+(S.l.length:Int)==(S.cs.length:Int)):=⟨_,rfl⟩
    have HB4:=Lh hb4
    cases b4 with
    | true=>
     have hb4':=hb4.symm
     clear hb4
     go_region_held3 (fun W=>K8 p S D W)
      (first | with_reducible exact HT0.out | with_reducible exact HT1.out | with_reducible exact HT2.out)
      (first
      | (go_at_call 63;(with_reducible refine (HSZ.out _).mono ?_);rintro e w5 ⟨rfl,hb⟩;have HA1:=Lh (HD.out.below hb);have HT1:=Lh HA1.out.sa.k8;clear hb)
      | (go_at_call 117;(with_reducible refine (HCA.out _).mono ?_);rintro e w6 ⟨rfl,hb⟩;have HA2:=Lh (HA1.out.below hb);have HT2:=Lh HA2.out.sa.k8;clear hb))
     have HX:=Lh (puS_3 HX1.out HX2.out HX3.out (by have:=HB4.out.symm;simpa using this))
     go_wp2
     go_ret
     exact ⟨by rw [HX.out];rfl,HA2.out.sa.bel⟩
    | false=>
     have hb4':=hb4.symm
     clear hb4
     go_region_held3 (fun W=>K8 p S D W)
      (first | with_reducible exact HT0.out | with_reducible exact HT1.out | with_reducible exact HT2.out)
      (first
      | (go_at_call 63;(with_reducible refine (HSZ.out _).mono ?_);rintro e w5 ⟨rfl,hb⟩;have HA1:=Lh (HD.out.below hb);have HT1:=Lh HA1.out.sa.k8;clear hb)
      | (go_at_call 117;(with_reducible refine (HCA.out _).mono ?_);rintro e w6 ⟨rfl,hb⟩;have HA2:=Lh (HA1.out.below hb);have HT2:=Lh HA2.out.sa.k8;clear hb))
     have HX4:=Lh (show ¬S.sz+S.l.length=S.cs.length from fun e=>by have:=HB4.out;rw [e] at this;simp at this)
     clear t0 t1 t2 t3 t4 t5 t6 t7 tl hb4'
     have HAD:=Lh HA2.out.drew
     have HADX:=Lh ((HA2.out.alloc (.cells #[.int .i64 M.id,.int .i64 M.rt,.int .i64 M.ep,.int .i64 M.ct,.int .i64 M.gn,.int .i64 M.st,.string M.bd] 44)).drew)
     have HKD:=Lh (show K8 p S D w6.drew∧M7 q M w6.drew from HAD.out.k)
     have HKX:=Lh (show K8 p S D (w6.alloc (.cells #[.int .i64 M.id,.int .i64 M.rt,.int .i64 M.ep,.int .i64 M.ct,.int .i64 M.gn,.int .i64 M.st,.string M.bd] 44)).drew∧M7 q M (w6.alloc (.cells #[.int .i64 M.id,.int .i64 M.rt,.int .i64 M.ep,.int .i64 M.ct,.int .i64 M.gn,.int .i64 M.st,.string M.bd] 44)).drew from HADX.out.k)
     obtain ⟨t0,t1,t2,t3,t4,t5,t6,t7,tl⟩:=HAD.out.sa.s8.facts
     obtain ⟨v0,v1,v2,v3,v4,v5,v6⟩:=HAD.out.mb.m7
     have vl:=HAD.out.mb.lt
     have HQL:=Lh (show q<w6.heap.size from HA2.out.mb.lt)
     have HLE:=Lh (sal_le (S:=S) HN.out.2.2.2.2.1)
     have HSI:=Lh (fun A c W (hl:Ls W W.heap.size (.slice A (S.al.length+1) c) (S.al++[M]))=>ssameid_any A (S.al.length+1) c (S.al++[M]) W hl)
     go_wp2_with fail
     go_region_held3 (fun W=>K8 p S D W∧M7 q M W)
      (first | with_reducible exact HKD.out | with_reducible exact HKX.out | with_reducible exact HK1.out | with_reducible exact HK1X.out | with_reducible exact HK2.out | with_reducible exact HK3.out)
      (first
      | (go_at_call 118;(with_reducible refine (HMS.out _ _ HAD.out.sa).mono ?_);rintro e w7 ⟨A7,c7,rfl,hw,hb⟩;have HB1:=Lh (HAD.out.below hb);have HK1:=Lh HB1.out.k;have HB1X:=Lh (HB1.out.alloc (.cells #[.int .i64 M.id,.int .i64 M.rt,.int .i64 M.ep,.int .i64 M.ct,.int .i64 M.gn,.int .i64 M.st,.string M.bd] 44));have HK1X:=Lh HB1X.out.k;have HW1:=Lh hw;have HSZ7:=Lh (show w6.heap.size≤w7.heap.size from hb.size);clear hw hb)
      | ((refine step_append_wn _ (by rfl) _ _ _ (by rfl) 44 i0 _ 64 Tryz.underlying25 HI.out HZ.out.1 HZ.out.2.1 HZ.out.2.2 rfl w6.heap.size w7.heap.size A7 c7 S.al (by rfl) (HW1.out.alloc (Nat.le_refl _) (.cells #[.int .i64 M.id,.int .i64 M.rt,.int .i64 M.ep,.int .i64 M.ct,.int .i64 M.gn,.int .i64 M.st,.string M.bd] 44)) (by have:=HSZ7.out;first | omega | (simp;omega)) (by first | exact Nat.le_refl _ | simp) ⟨w7.heap.size,0,none⟩ 1 M (by rfl) (msg_row w7 M 44) (by have:=HLE.out;unfold maxLen;omega) (by have:=HLE.out;omega) ?_);intro v8 w8 hwn hgr;obtain ⟨row,hgr,hrow⟩:=hgr;obtain ⟨hk2,hb2⟩:=HB1X.out.grown hgr (fun x e=>(hrow x e).1) (by have:=HQL.out;omega);have HK2:=Lh hk2;have HB2:=Lh hb2;obtain ⟨A8,c8,hv8⟩:=hwn.form;subst hv8;have HL8:=Lh (show Ls w8 w8.heap.size (.slice A8 (S.al.length+1) c8) (S.al++[M]) by simpa using hwn.ls);have HQ8:=Lh (show p<q∧q<w8.heap.size by have:=hgr.size;have:=HSZ7.out;have:=HQL.out;have:=HA2.out.lt;have hh:=hgr.size;(try simp at hh);omega);clear hwn hgr hrow hk2 hb2)
      | ((refine step_append_wn _ (by rfl) _ _ _ (by rfl) 44 i0 _ 64 Tryz.underlying25 HI.out HZ.out.1 HZ.out.2.1 HZ.out.2.2 rfl (w6.heap.size+1) w7.heap.size A7 c7 S.al (by rfl) HY1.out (by have:=HSZ7.out;first | omega | (simp;omega)) (by first | exact Nat.le_refl _ | simp) ⟨w6.heap.size,0,none⟩ 1 M (by rfl) HROW.out (by have:=HLE.out;unfold maxLen;omega) (by have:=HLE.out;omega) ?_);intro v8 w8 hwn hgr;obtain ⟨row,hgr,hrow⟩:=hgr;obtain ⟨hk2,hb2⟩:=HB1.out.grown hgr (fun x e=>(hrow x e).1) (by have:=HQL.out;omega);have HK2:=Lh hk2;have HB2:=Lh hb2;obtain ⟨A8,c8,hv8⟩:=hwn.form;subst hv8;have HL8:=Lh (show Ls w8 w8.heap.size (.slice A8 (S.al.length+1) c8) (S.al++[M]) by simpa using hwn.ls);have HQ8:=Lh (show p<q∧q<w8.heap.size by have:=hgr.size;have:=HSZ7.out;have:=HQL.out;have:=HA2.out.lt;have hh:=hgr.size;(try simp at hh);omega);clear hwn hgr hrow hk2 hb2)
      | (go_at_call 121;(with_reducible refine (HSI.out _ _ _ HL8.out).mono ?_);rintro e w9 ⟨rfl,hb⟩;have HB9:=Lh (btr HB2.out hb);have HK3:=Lh (k_up HK2.out (by have:=HQ8.out;omega) (by have:=HQ8.out;omega) hb);clear hb)
      | (go_at_call 118;(with_reducible refine (HMS.out _ _ HADX.out.sa).mono ?_);rintro e w7 ⟨A7,c7,rfl,hw,hb⟩;have HB1:=Lh (HADX.out.below hb);have HK1:=Lh HB1.out.k;have HY1:=Lh (show Wn w7 (w6.heap.size+1) w7.heap.size (.slice A7 S.al.length c7) S.al by simpa using hw);have HROW:=Lh (row_keep (W:=(w6.alloc (.cells #[.int .i64 M.id,.int .i64 M.rt,.int .i64 M.ep,.int .i64 M.ct,.int .i64 M.gn,.int .i64 M.st,.string M.bd] 44)).drew) (msg_row w6 M 44) (by simp) hb);have HSZ7:=Lh (show w6.heap.size+1≤w7.heap.size by have:=hb.size;simpa using this);clear hw hb))
     all_goals
      cases h5:dpB (S.al++[M]) with
      | true=>
       have HX:=Lh (puS_10 HX1.out HX2.out HX3.out HX4.out h5)
       clear t0 t1 t2 t3 t4 t5 t6 t7 tl v0 v1 v2 v3 v4 v5 v6 vl
       go_wp2
       go_ret
       exact ⟨by rw [HX.out];rfl,HB9.out⟩
      | false=>
       have HX:=Lh (puS_0 HX1.out HX2.out HX3.out HX4.out h5)
       clear t0 t1 t2 t3 t4 t5 t6 t7 tl v0 v1 v2 v3 v4 v5 v6 vl
       go_wp2
       go_ret
       exact ⟨by rw [HX.out];rfl,HB9.out⟩
  ·have HX:=Lh (puS_vf HX1.out h2)
   have hne:(vf M != 0)=true:=bne_iff_ne.2 h2
   clear h2
   generalize vf M=x at*
   go_wp2
   go_ret
   exact ⟨by rw [HX.out];rfl,H2.out.sa.bel⟩
 ·have HX:=Lh (puS_ex (M:=M) h1)
  have hne:(exS S true != 0)=true:=bne_iff_ne.2 h1
  clear h1
  generalize exS S true=x at*
  go_wp2
  go_ret
  exact ⟨by rw [HX.out];rfl,H1.out.sa.bel⟩
set_option maxHeartbeats 2000000 in
theorem dremove_any (A:Option Addr) (n c:Nat) (l:List Du) (id:Int) (w:World) (hv:Dl w w.heap.size (.slice A n c) l) :
  Calls Tryz.prog 176 #[.slice A n c,.int .i64 id] w (DlE w (rmR l id) (hrmE l id)):=by
 obtain ⟨rfl,hm1,hm2⟩:=hv.len
 have HV:=Lh hv
 have HVA:=Lh (fun w1 hv=>dvalid_any A l.length c l w1 hv)
 have HFI:=Lh (fun w1 hv=>dfind_any A l.length c l id w1 hv)
 clear hv hm1 hm2
 by_cases h0:vaF l=0
 ·have h12:=(vaF_zero h0).1
  by_cases hi:ixD l id<0
  ·have hE:hrmE l id=4:=by unfold hrmE;rw [if_neg (by simpa using h0),if_pos hi]
   have HR:=Lh (show rmR l id=[] by unfold rmR;rw [hE];rfl)
   rw [h0] at HVA
   rw [hE]
   generalize ixD l id=r at*
   clear h0 hE
   go_enter Tryz.func176,Tryz.ntmps176
   go_wp2_with fail
   refine (HVA.out _ HV.out).mono ?_
   rintro e w1 ⟨rfl,hb⟩
   have HB1:=Lh hb
   clear hb
   go_wp2_with fail
   refine (HFI.out _ (HV.out.up HB1.out)).mono ?_
   rintro e w2 ⟨rfl,hb⟩
   have HB2:=Lh (HB1.out.trans (hb.mono HB1.out.size))
   clear hb
   go_wp2
   exact bodyPost_ret (v:=.tuple #[.slice none 0 0,.int .i64 4]) (by simp only [results,Tryz.results176];go_simp <;> rfl) rfl ⟨none,0,by rw [HR.out];rfl,nw_none,by rw [HR.out];exact Dl.nil,HB2.out⟩
  ·have hE:hrmE l id=0:=by unfold hrmE;rw [if_neg (by simpa using h0),if_neg hi]
   obtain ⟨_,k,hk,hke,_⟩:=hrmE_zero hE
   obtain ⟨m,hm⟩:∃ m,l.length=m+1:=⟨l.length - 1,by omega⟩
   have HR:=Lh (show rmR l id=cuF l k by unfold rmR;rw [if_pos hE,hke];rfl)
   rw [h0] at HVA
   rw [hE]
   rw [hke] at HFI
   rw [hm] at HVA HFI HV ⊢
   have HW:=Lh (fun w1 hv=>dwithout_any A m c k l w1 hv (by omega) (by omega))
   have hk0:¬((k:Int)<0):=by omega
   clear h0 hE hi hk hke hm h12
   go_enter Tryz.func176,Tryz.ntmps176
   go_wp2_with fail
   refine (HVA.out _ HV.out).mono ?_
   rintro e w1 ⟨rfl,hb⟩
   have HB1:=Lh hb
   clear hb
   go_wp2_with fail
   refine (HFI.out _ (HV.out.up HB1.out)).mono ?_
   rintro e w2 ⟨rfl,hb⟩
   have HB2:=Lh (HB1.out.trans (hb.mono HB1.out.size))
   clear hb
   go_wp2_with fail
   refine (HW.out _ (HV.out.up HB2.out)).mono ?_
   rintro e w3 ⟨A3,c3,rfl,hnw,hl,hb⟩
   have HB3:=Lh (HB2.out.trans (hb.mono HB2.out.size))
   have HN:=Lh (nw_low hnw HB2.out.size)
   have HL:=Lh hl
   clear hb hnw hl
   go_wp2
   exact bodyPost_ret (v:=.tuple #[.slice A3 (cuF l k).length c3,.int .i64 0]) (by simp only [results,Tryz.results176];go_simp <;> rfl) rfl ⟨A3,c3,by rw [HR.out],HN.out,by rw [HR.out];exact HL.out,HB3.out⟩
 ·have hE:hrmE l id=vaF l:=by unfold hrmE;rw [if_pos h0]
  have HR:=Lh (show rmR l id=[] by unfold rmR;rw [if_neg (by rw [hE];exact h0)])
  have hne:(vaF l != 0)=true:=bne_iff_ne.2 h0
  rw [hE]
  generalize vaF l=x at*
  clear h0 hE
  go_enter Tryz.func176,Tryz.ntmps176
  go_wp2_with fail
  refine (HVA.out _ HV.out).mono ?_
  rintro e w1 ⟨rfl,hb⟩
  have HB1:=Lh hb
  clear hb
  go_wp2
  exact bodyPost_ret (v:=.tuple #[.slice none 0 0,.int .i64 x]) (by simp only [results,Tryz.results176];go_simp <;> rfl) rfl ⟨none,0,by rw [HR.out];rfl,nw_none,by rw [HR.out];exact Dl.nil,HB1.out⟩
set_option maxHeartbeats 4000000 in
set_option maxRecDepth 20000 in
theorem removed_any (A:Option Addr) (n c:Nat) (l:List Le) (A2:Option Addr) (n2 c2:Nat) (h:List Du) (id:Int) (w:World) (hv:El w w.heap.size (.slice A n c) l) (hd:Dl w w.heap.size (.slice A2 n2 c2) h) :
  Calls Tryz.prog 143 #[tv A n c A2 n2 c2,.int .i64 id] w (DlE w (rlH l h id) (rlE l h id)):=by
 obtain ⟨rfl,hm1,hm2⟩:=hv.len
 obtain ⟨rfl,hm3,hm4⟩:=hd.len
 have H0:=Lh (VaA.start 31 hv hd)
 have HV:=Lh (fun p W (k:VaA w p A c l A2 c2 h W)=>lvalid_any A l.length c l A2 h.length c2 h W k.el k.dl)
 have HR:=Lh (fun p W (k:VaA w p A c l A2 c2 h W)=>dremove_any A2 h.length c2 h id W k.dl)
 clear hv hd hm1 hm2 hm3 hm4
 by_cases h0:tbV l h=0
 ·have t:=(tbV_iff l h).1 h0
  rw [h0] at HV
  rw [rlE_tb t,rlH_tb t]
  clear h0 t
  generalize rmR h id=k at*
  generalize hrmE h id=x at*
  go_enter Tryz.func143,Tryz.ntmps143
  obtain ⟨t0,t1,tl⟩:=H0.out.tb
  go_wp2_with fail
  obtain ⟨p,hp⟩:∃ p,p=w.heap.size:=⟨_,rfl⟩
  rw [←hp] at H0 ⊢
  clear t0 t1 tl hp
  generalize w.alloc (.cells #[.slice A l.length c,.slice A2 h.length c2] 31)=w1 at*
  refine (HV.out _ _ H0.out).mono ?_
  rintro e w2 ⟨rfl,hb⟩
  have H1:=Lh (H0.out.below hb)
  obtain ⟨t0,t1,tl⟩:=H1.out.tb
  clear hb
  go_wp2_with fail
  clear t0 t1 tl
  refine (HR.out _ _ H1.out).mono ?_
  rintro e w3 ⟨A3,c3,rfl,hnw,hl,hb⟩
  have HF:=Lh (show DlE w k x (.returned (.tuple #[.slice A3 k.length c3,.int .i64 x])) w3 from ⟨A3,c3,rfl,nw_low hnw H1.out.bel.size,hl,H1.out.bel.trans (hb.mono H1.out.bel.size)⟩)
  clear hb hnw hl
  go_wp2
  exact bodyPost_ret (v:=.tuple #[.slice A3 k.length c3,.int .i64 x]) (by simp only [results,Tryz.results143];go_simp <;> rfl) rfl HF.out
 ·have hx:=rlE_bad (id:=id) h0
  have HN:=Lh (rlE_ne (l:=l) (h:=h) (id:=id) (by rw [hx];exact h0)).1
  have hne:(tbV l h != 0)=true:=bne_iff_ne.2 h0
  rw [hx]
  generalize tbV l h=x at*
  clear h0 hx
  go_enter Tryz.func143,Tryz.ntmps143
  obtain ⟨t0,t1,tl⟩:=H0.out.tb
  go_wp2_with fail
  obtain ⟨p,hp⟩:∃ p,p=w.heap.size:=⟨_,rfl⟩
  rw [←hp] at H0 ⊢
  clear t0 t1 tl hp
  generalize w.alloc (.cells #[.slice A l.length c,.slice A2 h.length c2] 31)=w1 at*
  refine (HV.out _ _ H0.out).mono ?_
  rintro e w2 ⟨rfl,hb⟩
  have H1:=Lh (H0.out.below hb).bel
  clear hb
  go_wp2
  exact bodyPost_ret (v:=.tuple #[.slice none 0 0,.int .i64 x]) (by simp only [results,Tryz.results143];go_simp <;> rfl) rfl ⟨none,0,by rw [HN.out];rfl,nw_none,by rw [HN.out];exact Dl.nil,H1.out⟩
def ElV (w:World) (l:List Le) (e:Ending) (w' : World):Prop:=∃ A c,e=.returned (.slice A l.length c)∧Nw w.heap.size A∧El w' w'.heap.size (.slice A l.length c) l∧Below w.heap.size w w'
theorem eow_elv {w w' : World} {l:List Le} {e:Ending} (h:EOw w l e w'):ElV w l e w':=by
 obtain ⟨v,rfl,ho,hb⟩:=h
 obtain ⟨A,c,rfl⟩:=own_form ho
 exact ⟨A,c,rfl,nwv_of (nwv_own ho (Nat.le_refl _)),El.of_own ho,hb⟩
abbrev RMs (W:World) (r:Nat) (M:Msg):Prop:=W.cell? ⟨r,0,none⟩=some (.int .i64 M.id)∧W.cell? ⟨r,1,none⟩=some (.int .i64 M.rt)∧W.cell? ⟨r,2,none⟩=some (.int .i64 M.ep)∧W.cell? ⟨r,3,none⟩=some (.int .i64 M.ct)∧W.cell? ⟨r,4,none⟩=some (.int .i64 M.gn)∧W.cell? ⟨r,5,none⟩=some (.int .i64 M.st)∧W.cell? ⟨r,6,none⟩=some (.string M.bd)∧W.frozen? ⟨r,0,none⟩=false∧W.frozen? ⟨r,1,none⟩=false∧W.frozen? ⟨r,2,none⟩=false∧W.frozen? ⟨r,3,none⟩=false∧W.frozen? ⟨r,4,none⟩=false∧W.frozen? ⟨r,5,none⟩=false∧W.frozen? ⟨r,6,none⟩=false∧r<W.heap.size
theorem RMs.lt {W:World} {r:Nat} {M:Msg} (h:RMs W r M):r<W.heap.size:=h.2.2.2.2.2.2.2.2.2.2.2.2.2.2
theorem RMs.below {B:Nat} {W W' : World} {r:Nat} {M:Msg} (h:RMs W r M) (hb:Below B W W') (hr:r<B):RMs W' r M:=
 ⟨(hb.cell (p:=⟨r,0,none⟩) hr).trans h.1,(hb.cell (p:=⟨r,1,none⟩) hr).trans h.2.1,(hb.cell (p:=⟨r,2,none⟩) hr).trans h.2.2.1,(hb.cell (p:=⟨r,3,none⟩) hr).trans h.2.2.2.1,(hb.cell (p:=⟨r,4,none⟩) hr).trans h.2.2.2.2.1,(hb.cell (p:=⟨r,5,none⟩) hr).trans h.2.2.2.2.2.1,(hb.cell (p:=⟨r,6,none⟩) hr).trans h.2.2.2.2.2.2.1,(hb.frozen (p:=⟨r,0,none⟩) hr).trans h.2.2.2.2.2.2.2.1,(hb.frozen (p:=⟨r,1,none⟩) hr).trans h.2.2.2.2.2.2.2.2.1,(hb.frozen (p:=⟨r,2,none⟩) hr).trans h.2.2.2.2.2.2.2.2.2.1,(hb.frozen (p:=⟨r,3,none⟩) hr).trans h.2.2.2.2.2.2.2.2.2.2.1,(hb.frozen (p:=⟨r,4,none⟩) hr).trans h.2.2.2.2.2.2.2.2.2.2.2.1,(hb.frozen (p:=⟨r,5,none⟩) hr).trans h.2.2.2.2.2.2.2.2.2.2.2.2.1,(hb.frozen (p:=⟨r,6,none⟩) hr).trans h.2.2.2.2.2.2.2.2.2.2.2.2.2.1,Nat.lt_of_lt_of_le h.2.2.2.2.2.2.2.2.2.2.2.2.2.2 hb.size⟩
theorem RMs.start (w:World) (M:Msg) (t:TypeId):RMs (w.alloc (.cells #[.int .i64 M.id,.int .i64 M.rt,.int .i64 M.ep,.int .i64 M.ct,.int .i64 M.gn,.int .i64 M.st,.string M.bd] t)) w.heap.size M:=
 ⟨by simp [go_sem],by simp [go_sem],by simp [go_sem],by simp [go_sem],by simp [go_sem],by simp [go_sem],by simp [go_sem],by simp [go_sem],by simp [go_sem],by simp [go_sem],by simp [go_sem],by simp [go_sem],by simp [go_sem],by simp [go_sem],by simp⟩
structure RlW (w:World) (p r s:Nat) (A:Option Addr) (c:Nat) (l:List Le) (A2:Option Addr) (c2:Nat) (h:List Du) (W:World):Prop where
 va:VaA w p A c l A2 c2 h W
 rt:RT W r none 0 0 none 0 0
 rm:RMs W s zM
 ne:w.heap.size≤p∧p<r∧r<s
section
variable {w W W' : World} {p r s c c2:Nat} {A A2:Option Addr} {l:List Le} {h:List Du}
theorem RlW.below (k:RlW w p r s A c l A2 c2 h W) (hb:Below W.heap.size W W'):RlW w p r s A c l A2 c2 h W':=⟨k.va.below hb,k.rt.below hb k.rt.lt,k.rm.below hb k.rm.lt,k.ne⟩
theorem RlW.start (hv:El w w.heap.size (.slice A l.length c) l) (hd:Dl w w.heap.size (.slice A2 h.length c2) h) (t u:TypeId):RlW w w.heap.size (w.heap.size+1) (w.heap.size+1+1) A c l A2 c2 h (((w.alloc (.cells #[.slice A l.length c,.slice A2 h.length c2] t)).alloc (.cells #[.slice none 0 0,.slice none 0 0] t)).alloc (.cells #[.int .i64 0,.int .i64 0,.int .i64 0,.int .i64 0,.int .i64 0,.int .i64 0,.string ⟨#[]⟩] u)):=by
 have e1:(w.alloc (.cells #[.slice A l.length c,.slice A2 h.length c2] t)).heap.size=w.heap.size+1:=by simp
 have e2:((w.alloc (.cells #[.slice A l.length c,.slice A2 h.length c2] t)).alloc (.cells #[.slice none 0 0,.slice none 0 0] t)).heap.size=w.heap.size+1+1:=by simp
 have k1:=RT.start (w.alloc (.cells #[.slice A l.length c,.slice A2 h.length c2] t)) none 0 0 none 0 0 t
 have k2:=RMs.start ((w.alloc (.cells #[.slice A l.length c,.slice A2 h.length c2] t)).alloc (.cells #[.slice none 0 0,.slice none 0 0] t)) zM u
 rw [e1] at k1
 rw [e2] at k2
 exact ⟨((VaA.start t hv hd).alloc _).alloc _,k1.below ((Below.refl _ _).alloc (Nat.le_refl _) _) k1.lt,k2,Nat.le_refl _,Nat.lt_succ_self _,Nat.lt_succ_self _⟩
end
set_option maxHeartbeats 8000000 in
set_option maxRecDepth 20000 in
theorem lrelease_any (A:Option Addr) (n c:Nat) (l:List Le) (A2:Option Addr) (n2 c2:Nat) (h:List Du) (id:Int) (w:World) (hv:El w w.heap.size (.slice A n c) l) (hd:Dl w w.heap.size (.slice A2 n2 c2) h) :
  Calls Tryz.prog 92 #[tv A n c A2 n2 c2,.int .i64 id] w (TME w (rlL l h id) (rlH l h id) (rlM l h id) (rlE l h id)):=by
 obtain ⟨rfl,hm1,hm2⟩:=hv.len
 obtain ⟨rfl,hm3,hm4⟩:=hd.len
 have H0:=Lh (RlW.start hv hd 31 44)
 have HV:=Lh hv
 have HRM:=Lh (fun p W (k:VaA w p A c l A2 c2 h W)=>removed_any A l.length c l A2 h.length c2 h id W k.el k.dl)
 clear hv hd hm1 hm2 hm3 hm4
 by_cases he:rlE l h id=0
 ·obtain ⟨t,k,hk,hka,_,hH,hL,hM⟩:=rlE_at he
  have HP:=Lh (fun p W (q:VaA w p A c l A2 c2 h W)=>lplace_any A l.length c l id W q.el t.asc (by have:=t.len;omega))
  unfold PlR at HP
  rw [hka] at HP
  rw [he] at HRM
  rw [he,hL,hM]
  generalize rlH l h id=K at*
  generalize kHas Le.id l id=O at*
  have HW:=Lh (fun p W (q:VaA w p A c l A2 c2 h W)=>ewithout_any A l.length c k l W q.el hk (by have:=t.len;omega))
  have hk' : (k:Int)<(l.length:Int):=by omega
  obtain ⟨X,hX⟩:∃ X,l[k]=X:=⟨_,rfl⟩
  rw [hX]
  have HXK:=Lh hX
  generalize l.eraseIdx k=LE at*
  clear he t hka hH hL hM hX
  go_enter Tryz.func92,Tryz.ntmps92
  obtain ⟨t0,t1,tl⟩:=H0.out.va.tb
  go_wp2_with fail
  clear t0 t1 tl
  obtain ⟨p,hp⟩:∃ p,p=w.heap.size:=⟨_,rfl⟩
  obtain ⟨r,hr⟩:∃ r,r=w.heap.size+1:=⟨_,rfl⟩
  obtain ⟨s,hs⟩:∃ s,s=w.heap.size+1+1:=⟨_,rfl⟩
  rw [←hs,←hr,←hp] at H0 ⊢
  clear hp hr hs
  generalize (((w.alloc (.cells #[.slice A l.length c,.slice A2 h.length c2] 31)).alloc (.cells #[.slice none 0 0,.slice none 0 0] 31)).alloc (.cells #[.int .i64 0,.int .i64 0,.int .i64 0,.int .i64 0,.int .i64 0,.int .i64 0,.string ⟨#[]⟩] 44))=w1 at*
  refine (HRM.out _ _ H0.out.va).mono ?_
  rintro e w2 ⟨A3,c3,rfl,hnw,hl,hb⟩
  have H1:=Lh (H0.out.below hb)
  have HK:=Lh hl
  have HNW:=Lh hnw
  have HSZ:=Lh (And.intro H0.out.rt.lt (And.intro H0.out.rm.lt H0.out.va.bel.size))
  clear hb hnw hl
  obtain ⟨t0,t1,tl⟩:=H1.out.va.tb
  go_wp2_with fail
  clear t0 t1 tl
  refine (HP.out _ _ H1.out.va).mono ?_
  rintro e w3 ⟨rfl,hb⟩
  have H2:=Lh (H1.out.below hb)
  have HK2:=Lh (HK.out.up hb)
  clear hb
  obtain ⟨b,o,rfl,hbw⟩:=HV.out.some_ (by omega)
  have HBR:=Lh (show p≠r∧b≠r∧p≠s∧b≠s∧r≠s by have:=H1.out.ne;omega)
  have HS0:=Lh (fun W (q:RlW w p r s (some ⟨b,o,none⟩) c l A2 c2 h W)=>show W.cell? ⟨p,0,none⟩=some (.slice (some ⟨b,o,none⟩) l.length c)∧W.cell? ⟨b,o+k*8,none⟩=some (.int .i64 X.m.id)∧W.cell? ⟨b,o+k*8+1,none⟩=some (.int .i64 X.m.rt)∧W.cell? ⟨b,o+k*8+2,none⟩=some (.int .i64 X.m.ep)∧W.cell? ⟨b,o+k*8+3,none⟩=some (.int .i64 X.m.ct)∧W.cell? ⟨b,o+k*8+4,none⟩=some (.int .i64 X.m.gn)∧W.cell? ⟨b,o+k*8+5,none⟩=some (.int .i64 X.m.st)∧W.cell? ⟨b,o+k*8+6,none⟩=some (.string X.m.bd) from by
   obtain ⟨⟨c0,c1,c2',c3,c4,c5,c6,c7⟩,_⟩:=q.va.el.c8 hk
   rw [HXK.out] at c0 c1 c2' c3 c4 c5 c6 c7
   exact ⟨q.va.tb.1,c0,c1,c2',c3,c4,c5,c6⟩)
  have HSa:=Lh (fun W v v2 (q:W.cell? ⟨p,0,none⟩=some (.slice (some ⟨b,o,none⟩) l.length c)∧W.cell? ⟨b,o+k*8,none⟩=some (.int .i64 X.m.id)∧W.cell? ⟨b,o+k*8+1,none⟩=some (.int .i64 X.m.rt)∧W.cell? ⟨b,o+k*8+2,none⟩=some (.int .i64 X.m.ep)∧W.cell? ⟨b,o+k*8+3,none⟩=some (.int .i64 X.m.ct)∧W.cell? ⟨b,o+k*8+4,none⟩=some (.int .i64 X.m.gn)∧W.cell? ⟨b,o+k*8+5,none⟩=some (.int .i64 X.m.st)∧W.cell? ⟨b,o+k*8+6,none⟩=some (.string X.m.bd))=>show (set2 W r v v2).cell? ⟨p,0,none⟩=some (.slice (some ⟨b,o,none⟩) l.length c)∧(set2 W r v v2).cell? ⟨b,o+k*8,none⟩=some (.int .i64 X.m.id)∧(set2 W r v v2).cell? ⟨b,o+k*8+1,none⟩=some (.int .i64 X.m.rt)∧(set2 W r v v2).cell? ⟨b,o+k*8+2,none⟩=some (.int .i64 X.m.ep)∧(set2 W r v v2).cell? ⟨b,o+k*8+3,none⟩=some (.int .i64 X.m.ct)∧(set2 W r v v2).cell? ⟨b,o+k*8+4,none⟩=some (.int .i64 X.m.gn)∧(set2 W r v v2).cell? ⟨b,o+k*8+5,none⟩=some (.int .i64 X.m.st)∧(set2 W r v v2).cell? ⟨b,o+k*8+6,none⟩=some (.string X.m.bd) from ⟨(set2_far HBR.out.1).trans q.1,(set2_far HBR.out.2.1).trans q.2.1,(set2_far HBR.out.2.1).trans q.2.2.1,(set2_far HBR.out.2.1).trans q.2.2.2.1,(set2_far HBR.out.2.1).trans q.2.2.2.2.1,(set2_far HBR.out.2.1).trans q.2.2.2.2.2.1,(set2_far HBR.out.2.1).trans q.2.2.2.2.2.2.1,(set2_far HBR.out.2.1).trans q.2.2.2.2.2.2.2⟩)
  have HSb:=Lh (fun W (q:W.cell? ⟨p,0,none⟩=some (.slice (some ⟨b,o,none⟩) l.length c)∧W.cell? ⟨b,o+k*8,none⟩=some (.int .i64 X.m.id)∧W.cell? ⟨b,o+k*8+1,none⟩=some (.int .i64 X.m.rt)∧W.cell? ⟨b,o+k*8+2,none⟩=some (.int .i64 X.m.ep)∧W.cell? ⟨b,o+k*8+3,none⟩=some (.int .i64 X.m.ct)∧W.cell? ⟨b,o+k*8+4,none⟩=some (.int .i64 X.m.gn)∧W.cell? ⟨b,o+k*8+5,none⟩=some (.int .i64 X.m.st)∧W.cell? ⟨b,o+k*8+6,none⟩=some (.string X.m.bd))=>show (set7 W s 0 X.m).cell? ⟨p,0,none⟩=some (.slice (some ⟨b,o,none⟩) l.length c)∧(set7 W s 0 X.m).cell? ⟨b,o+k*8,none⟩=some (.int .i64 X.m.id)∧(set7 W s 0 X.m).cell? ⟨b,o+k*8+1,none⟩=some (.int .i64 X.m.rt)∧(set7 W s 0 X.m).cell? ⟨b,o+k*8+2,none⟩=some (.int .i64 X.m.ep)∧(set7 W s 0 X.m).cell? ⟨b,o+k*8+3,none⟩=some (.int .i64 X.m.ct)∧(set7 W s 0 X.m).cell? ⟨b,o+k*8+4,none⟩=some (.int .i64 X.m.gn)∧(set7 W s 0 X.m).cell? ⟨b,o+k*8+5,none⟩=some (.int .i64 X.m.st)∧(set7 W s 0 X.m).cell? ⟨b,o+k*8+6,none⟩=some (.string X.m.bd) from ⟨(sets_far (p:=⟨p,0,none⟩) HBR.out.2.2.1 0 X.m.l).trans q.1,(sets_far (p:=⟨b,o+k*8,none⟩) HBR.out.2.2.2.1 0 X.m.l).trans q.2.1,(sets_far (p:=⟨b,o+k*8+1,none⟩) HBR.out.2.2.2.1 0 X.m.l).trans q.2.2.1,(sets_far (p:=⟨b,o+k*8+2,none⟩) HBR.out.2.2.2.1 0 X.m.l).trans q.2.2.2.1,(sets_far (p:=⟨b,o+k*8+3,none⟩) HBR.out.2.2.2.1 0 X.m.l).trans q.2.2.2.2.1,(sets_far (p:=⟨b,o+k*8+4,none⟩) HBR.out.2.2.2.1 0 X.m.l).trans q.2.2.2.2.2.1,(sets_far (p:=⟨b,o+k*8+5,none⟩) HBR.out.2.2.2.1 0 X.m.l).trans q.2.2.2.2.2.2.1,(sets_far (p:=⟨b,o+k*8+6,none⟩) HBR.out.2.2.2.1 0 X.m.l).trans q.2.2.2.2.2.2.2⟩)
  have HVW:=Lh (show VaA w p (some ⟨b,o,none⟩) c l A2 c2 h w3.drew from H2.out.va.below ((Below.refl _ _).drew))
  have HT0:=Lh (show w3.drew.cell? ⟨p,0,none⟩=some (.slice (some ⟨b,o,none⟩) l.length c)∧w3.drew.cell? ⟨b,o+k*8,none⟩=some (.int .i64 X.m.id)∧w3.drew.cell? ⟨b,o+k*8+1,none⟩=some (.int .i64 X.m.rt)∧w3.drew.cell? ⟨b,o+k*8+2,none⟩=some (.int .i64 X.m.ep)∧w3.drew.cell? ⟨b,o+k*8+3,none⟩=some (.int .i64 X.m.ct)∧w3.drew.cell? ⟨b,o+k*8+4,none⟩=some (.int .i64 X.m.gn)∧w3.drew.cell? ⟨b,o+k*8+5,none⟩=some (.int .i64 X.m.st)∧w3.drew.cell? ⟨b,o+k*8+6,none⟩=some (.string X.m.bd) from HS0.out w3.drew (H2.out.below ((Below.refl _ _).drew)))
  have HAF:=Lh (fun (w4:World) (hb:Below w3.drew.heap.size w3.drew w4)=>show RlW w p r s (some ⟨b,o,none⟩) c l A2 c2 h w4∧Dl w4 w4.heap.size (.slice A3 K.length c3) K from ⟨H2.out.below (drew_bel hb),HK2.out.up (drew_bel hb)⟩)
  have hrs:¬r=s:=HBR.out.2.2.2.2
  have hsr:¬s=r:=fun e=>HBR.out.2.2.2.2 e.symm
  go_wp2_with fail
  go_region_held3 (fun W=>W.cell? ⟨p,0,none⟩=some (.slice (some ⟨b,o,none⟩) l.length c)∧W.cell? ⟨b,o+k*8,none⟩=some (.int .i64 X.m.id)∧W.cell? ⟨b,o+k*8+1,none⟩=some (.int .i64 X.m.rt)∧W.cell? ⟨b,o+k*8+2,none⟩=some (.int .i64 X.m.ep)∧W.cell? ⟨b,o+k*8+3,none⟩=some (.int .i64 X.m.ct)∧W.cell? ⟨b,o+k*8+4,none⟩=some (.int .i64 X.m.gn)∧W.cell? ⟨b,o+k*8+5,none⟩=some (.int .i64 X.m.st)∧W.cell? ⟨b,o+k*8+6,none⟩=some (.string X.m.bd))
   (first | with_reducible exact HT0.out | with_reducible exact HT1.out | with_reducible exact HT2.out | with_reducible exact HT3.out)
   (first | (go_at_call 144;(with_reducible refine (HW.out _ _ HVW.out).mono ?_);rintro e w4 hq;obtain ⟨A4,c4,rfl,hnw4,hl4,hb4⟩:=eow_elv hq;obtain ⟨h4,hk4⟩:=HAF.out _ hb4;have H4:=Lh h4;have HT1:=Lh (HS0.out _ h4);have HT2:=Lh (HSa.out _ (.slice A4 LE.length c4) (.slice A3 K.length c3) HT1.out);have HT3:=Lh (HSb.out _ HT2.out);have HE4:=Lh hl4;have HK4:=Lh hk4;have HN4:=Lh hnw4;obtain ⟨r0,r1,f0,f1,rl⟩:=h4.rt;obtain ⟨s0,s1,s2,s3,s4,s5,s6,g0,g1,g2,g3,g4,g5,g6,sl⟩:=h4.rm;clear hq hb4 hl4 hk4 hnw4 h4))
  have HF:=Lh (show TME w LE K X.m 0 (.returned (.tuple #[.agg #[.slice A4 LE.length c4,.slice A3 K.length c3],X.m.v,.int .i64 0])) (set7 (set2 w4 r (.slice A4 LE.length c4) (.slice A3 K.length c3)) s 0 X.m) from
   ⟨A4,c4,A3,c3,rfl,nw_low HN4.out H2.out.va.bel.size,nw_low HNW.out HSZ.out.2.2,(El.offs HN4.out (show s<w3.drew.heap.size from H2.out.rm.lt) X.m.l 0 (HE4.out.set2 HN4.out (show r<w3.drew.heap.size from H2.out.rt.lt))).more (by simp),(Dl.offs HNW.out HSZ.out.2.1 X.m.l 0 (HK4.out.set2 HNW.out HSZ.out.1)).more (by simp),sets_below (by have:=H1.out.ne;omega) X.m.l 0 _ (set2_below H4.out.va.bel (by have:=H1.out.ne;omega))⟩)
  go_wp2
  exact bodyPost_ret (v:=.tuple #[.agg #[.slice A4 LE.length c4,.slice A3 K.length c3],X.m.v,.int .i64 0]) (by simp only [results,Tryz.results92];go_simp <;> rfl) rfl HF.out
 ·obtain ⟨hH,hL,hM⟩:=rlE_ne he
  have HN:=Lh (And.intro hL (And.intro hH hM))
  have hne:(rlE l h id != 0)=true:=bne_iff_ne.2 he
  rw [hH] at HRM
  clear he hH hL hM
  rw [HN.out.1,HN.out.2.1,HN.out.2.2]
  generalize rlE l h id=x at*
  go_enter Tryz.func92,Tryz.ntmps92
  obtain ⟨t0,t1,tl⟩:=H0.out.va.tb
  go_wp2_with fail
  clear t0 t1 tl
  obtain ⟨p,hp⟩:∃ p,p=w.heap.size:=⟨_,rfl⟩
  obtain ⟨r,hr⟩:∃ r,r=w.heap.size+1:=⟨_,rfl⟩
  obtain ⟨s,hs⟩:∃ s,s=w.heap.size+1+1:=⟨_,rfl⟩
  rw [←hs,←hr,←hp] at H0 ⊢
  clear hp hr hs
  generalize (((w.alloc (.cells #[.slice A l.length c,.slice A2 h.length c2] 31)).alloc (.cells #[.slice none 0 0,.slice none 0 0] 31)).alloc (.cells #[.int .i64 0,.int .i64 0,.int .i64 0,.int .i64 0,.int .i64 0,.int .i64 0,.string ⟨#[]⟩] 44))=w1 at*
  refine (HRM.out _ _ H0.out.va).mono ?_
  rintro e w2 ⟨A3,c3,rfl,hnw,hl,hb⟩
  have H1:=Lh (H0.out.below hb)
  clear hb hnw hl
  obtain ⟨r0,r1,f0,f1,rl⟩:=H1.out.rt
  obtain ⟨s0,s1,s2,s3,s4,s5,s6,g0,g1,g2,g3,g4,g5,g6,sl⟩:=H1.out.rm
  have hrs:¬r=s:=by have:=H1.out.ne;omega
  have hsr:¬s=r:=by have:=H1.out.ne;omega
  have HB:=Lh (show Below w.heap.size w (set7 (set2 w2 r (.slice none 0 0) (.slice none 0 0)) s 0 zM) from sets_below (by have:=H1.out.ne;omega) zM.l 0 _ (set2_below H1.out.va.bel (by have:=H1.out.ne;omega)))
  go_wp2
  exact bodyPost_ret (v:=.tuple #[.agg #[.slice none 0 0,.slice none 0 0],.agg #[.int .i64 0,.int .i64 0,.int .i64 0,.int .i64 0,.int .i64 0,.int .i64 0,.string ⟨#[]⟩],.int .i64 x]) (by simp only [results,Tryz.results92];go_simp <;> rfl) rfl (tme_nil rfl rfl rfl rfl HB.out)
def LsV (w:World) (l:List Msg) (e:Ending) (w' : World):Prop:=∃ A c,e=.returned (.slice A l.length c)∧Nw w.heap.size A∧Ls w' w'.heap.size (.slice A l.length c) l∧Below w.heap.size w w'
theorem range_getD (l:List Msg):(List.range l.length).map (fun i=>l.getD i zM)=l:=by
 apply List.ext_getElem
 ·simp
 ·intro i h1 h2;simp [List.getD,h2]
theorem clp_lsv {w w' : World} {l:List Msg} {e:Ending} (h:ClP w l e w'):LsV w l e w':=by
 obtain ⟨q,cap,rfl,h1,h2,h3,hr,hb⟩:=h
 have hl:=hr.ls l.length cap (Nat.le_refl _) h1 h2
 rw [range_getD] at hl
 exact ⟨_,cap,rfl,nw_some h3,hl,hb⟩
theorem eclp_elv {w w' : World} {l:List Le} {e:Ending} (h:EClP w l e w'):ElV w l e w':=by
 obtain ⟨v,rfl,ho,hb⟩:=h
 obtain ⟨A,c,rfl⟩:=own_form ho
 exact ⟨A,c,rfl,nwv_of (nwv_own ho (Nat.le_refl _)),El.of_own ho,hb⟩
theorem dclp_dlv {w w' : World} {l:List Du} {e:Ending} (h:DClP w l e w'):DlV w l e w':=by
 obtain ⟨v,rfl,ho,hb⟩:=h
 obtain ⟨A,c,rfl⟩:=own_form ho
 exact ⟨A,c,rfl,nwv_of (nwv_own ho (Nat.le_refl _)),Dl.of_own ho,hb⟩
set_option maxHeartbeats 4000000 in
set_option maxRecDepth 20000 in
theorem sclone_any (S:Sh) (D:Sx) (w:World) (hs:SR w w.heap.size S D) (n1:1≤S.cs.length) (n2:S.cs.length≤1000) (n3:S.l.length≤1000) (n4:S.h.length≤1000) :
  Calls Tryz.prog 75 #[sv S D] w (SV w S):=by
 have H0:=Lh ((SAt.start 33 hs).alloc (.cells #[.bool false,.int .i64 0,.int .i64 0,.slice none 0 0,.int .i64 0,.int .i64 0,.slice none 0 0,.slice none 0 0] 33))
 have R0:=Lh (SB8.zero (w.alloc (.cells #[.bool S.lv,.int .i64 S.lo,.int .i64 S.hi,.slice D.A S.cs.length D.c,.int .i64 S.hd,.int .i64 S.sz,.slice D.A2 S.l.length D.c2,.slice D.A3 S.h.length D.c3] 33)) 33)
 have HA:=Lh (fun p D W (k:SAt w p S D W)=>(clone_any D.A S.cs.length D.c S.cs W k.sr.ls n1 n2).mono fun _ _ h=>clp_lsv h)
 have HL:=Lh (fun p D W (k:SAt w p S D W)=>(eclone_any D.A2 S.l.length D.c2 S.l W k.sr.el n3).mono fun _ _ h=>eclp_elv h)
 have HH:=Lh (fun p D W (k:SAt w p S D W)=>(dclone_any D.A3 S.h.length D.c3 S.h W k.sr.dl n4).mono fun _ _ h=>dclp_dlv h)
 clear hs n1 n2 n3 n4
 go_enter Tryz.func75,Tryz.ntmps75
 obtain ⟨t0,t1,t2,t3,t4,t5,t6,t7,tl⟩:=H0.out.s8.facts
 go_wp2_with fail
 clear t0 t1 t2 t3 t4 t5 t6 t7 tl
 obtain ⟨p,hp⟩:∃ p,p=w.heap.size:=⟨_,rfl⟩
 obtain ⟨r,hr⟩:∃ r,r=w.heap.size+1:=⟨_,rfl⟩
 have e1:(w.alloc (.cells #[.bool S.lv,.int .i64 S.lo,.int .i64 S.hi,.slice D.A S.cs.length D.c,.int .i64 S.hd,.int .i64 S.sz,.slice D.A2 S.l.length D.c2,.slice D.A3 S.h.length D.c3] 33)).heap.size=r:=by rw [hr];simp
 rw [e1] at R0
 have HPR:=Lh (show ¬p=r∧¬r=p∧w.heap.size≤r by omega)
 rw [←hr,←hp]
 rw [←hp] at H0
 clear e1 hp hr
 generalize ((w.alloc (.cells #[.bool S.lv,.int .i64 S.lo,.int .i64 S.hi,.slice D.A S.cs.length D.c,.int .i64 S.hd,.int .i64 S.sz,.slice D.A2 S.l.length D.c2,.slice D.A3 S.h.length D.c3] 33)).alloc (.cells #[.bool false,.int .i64 0,.int .i64 0,.slice none 0 0,.int .i64 0,.int .i64 0,.slice none 0 0,.slice none 0 0] 33))=w1 at*
 refine (HA.out _ _ _ H0.out).mono ?_
 rintro e w2 ⟨A1,c1,rfl,n1,l1,b1⟩
 have H1:=Lh (H0.out.below b1)
 have H1':=Lh (H1.out.setA l1 (offb_nw n1 H0.out.lt))
 have R1:=Lh ((R0.out.up b1).other (q:=⟨p,3,none⟩) HPR.out.1 (.slice A1 S.cs.length c1))
 have N1:=Lh (nw_low n1 (show r+1≤_ from R0.out.lt))
 clear n1 l1 b1
 obtain ⟨t0,t1,t2,t3,t4,t5,t6,t7,tl⟩:=H1.out.s8.facts
 obtain ⟨f0,f1,f2,f3,f4,f5,f6,f7⟩:=H1.out.s8.free
 go_wp2_with fail
 clear t0 t1 t2 t3 t4 t5 t6 t7 tl f0 f1 f2 f3 f4 f5 f6 f7
 generalize w2.setCell ⟨p,3,none⟩ (.slice A1 S.cs.length c1)=w3 at*
 refine (HL.out _ _ _ H1'.out).mono ?_
 rintro e w4 ⟨A2,c2,rfl,n1,l1,b1⟩
 have H2:=Lh (H1'.out.below b1)
 have H2':=Lh (H2.out.setL l1 (offb_nw n1 H1'.out.lt))
 have R2:=Lh ((R1.out.up b1).other (q:=⟨p,6,none⟩) HPR.out.1 (.slice A2 S.l.length c2))
 have N2:=Lh (nw_low n1 (show r+1≤_ from R1.out.lt))
 clear n1 l1 b1
 obtain ⟨t0,t1,t2,t3,t4,t5,t6,t7,tl⟩:=H2.out.s8.facts
 obtain ⟨f0,f1,f2,f3,f4,f5,f6,f7⟩:=H2.out.s8.free
 go_wp2_with fail
 clear t0 t1 t2 t3 t4 t5 t6 t7 tl f0 f1 f2 f3 f4 f5 f6 f7
 generalize w4.setCell ⟨p,6,none⟩ (.slice A2 S.l.length c2)=w5 at*
 refine (HH.out _ _ _ H2'.out).mono ?_
 rintro e w6 ⟨A3,c3,rfl,n1,l1,b1⟩
 have H3:=Lh (H2'.out.below b1)
 have H3':=Lh (H3.out.setH l1 (offb_nw n1 H2'.out.lt))
 have R3':=Lh (R2.out.up b1)
 have R3:=Lh ((R2.out.up b1).other (q:=⟨p,7,none⟩) HPR.out.1 (.slice A3 S.h.length c3))
 have N3:=Lh (nw_low n1 (show r+1≤_ from R2.out.lt))
 clear n1 l1 b1
 have HF:=Lh (show SV w S (.returned (sv S ⟨A1,c1,A2,c2,A3,c3⟩)) (set8s (w6.setCell ⟨p,7,none⟩ (.slice A3 S.h.length c3)) r S ⟨A1,c1,A2,c2,A3,c3⟩) from
  ⟨_,rfl,(show Sx.nw ⟨A1,c1,A2,c2,A3,c3⟩ (r+1) from ⟨N1.out,N2.out,N3.out⟩).low (by have:=HPR.out.2.2;omega),SR.sets ((show Sx.nw ⟨A1,c1,A2,c2,A3,c3⟩ (r+1) from ⟨N1.out,N2.out,N3.out⟩).off (Nat.lt_succ_self r)) (S.l8 ⟨A1,c1,A2,c2,A3,c3⟩) 0 _ H3'.out.sr,set8s_below HPR.out.2.2 H3'.out.bel _ _⟩)
 obtain ⟨t0,t1,t2,t3,t4,t5,t6,t7,tl⟩:=H3.out.s8.facts
 obtain ⟨f0,f1,f2,f3,f4,f5,f6,f7⟩:=H3.out.s8.free
 obtain ⟨r0,r1,r2,r3,r4,r5,r6,r7,rl⟩:=R3'.out.facts
 obtain ⟨g0,g1,g2,g3,g4,g5,g6,g7⟩:=R3'.out.free
 obtain ⟨hpr,hrp,-⟩:=HPR.out
 go_wp2
 exact bodyPost_ret (v:=sv S ⟨A1,c1,A2,c2,A3,c3⟩) (by simp only [results,Tryz.results75];go_simp <;> rfl) rfl HF.out
end Go.Proofs.YtdobenkkkkaipaaGreat
