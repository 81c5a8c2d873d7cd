/- What is proved here: shardqueueref05.Remove by a contract; shardqueueref06.Release by a contract; ref07.Ack by a contract; ref07.Take by a contract where it returns an error. -/
import Derived.Test.YtdobenkkkkaipaaGreatJ44
namespace Go.Proofs.YtdobenkkkkaipaaGreat
open Go.RowKit
set_option linter.unusedVariables false
theorem rix5b_any (A:Option Addr) (n c:Nat) (l:List Du) (id:Int) (w:World) (hv:Dl w w.heap.size (.slice A n c) l) :
  Calls Tryz.prog 163 #[.slice A n c,.int .i64 id] w fun e w'=>e=.returned (.int .i64 (ixD l id))∧Below w.heap.size w w':=
 (rix5_any A n c l id w _ hv).mono fun e w' ⟨h,hw⟩=>⟨h,hw ▸ Below.refl _ _⟩
set_option maxHeartbeats 2000000 in
theorem rremove5_any (A:Option Addr) (n c:Nat) (l:List Du) (id:Int) (w:World) (hv:Dl w w.heap.size (.slice A n c) l) :
  Calls Tryz.prog 145 #[.slice A n c,.int .i64 id] w (DlE w (rmR l id) (hrmE l id)):=by
 obtain ⟨rfl,hm1,hm2⟩:=hv.len
 have HV:=Lh hv
 have HVA:=Lh (fun w1 hv=>rvalid5_any A l.length c l w1 hv)
 have HFI:=Lh (fun w1 hv=>rix5b_any A l.length c l id w1 hv)
 clear hv hm1 hm2
 by_cases h0:vaF l=0
 ·have h12:=(vaF_zero h0).1
  by_cases hi:ixD l id<0
  ·have hE:hrmE l id=4:=by unfold hrmE;rw [if_neg (by simpa using h0),if_pos hi]
   have HR:=Lh (show rmR l id=[] by unfold rmR;rw [hE];rfl)
   rw [h0] at HVA
   rw [hE]
   generalize ixD l id=r at*
   clear h0 hE
   go_enter Tryz.func145,Tryz.ntmps145
   go_wp2_with fail
   refine (HVA.out _ HV.out).mono ?_
   rintro e w1 ⟨rfl,hb⟩
   have HB1:=Lh hb
   clear hb
   go_wp2_with fail
   refine (HFI.out _ (HV.out.up HB1.out)).mono ?_
   rintro e w2 ⟨rfl,hb⟩
   have HB2:=Lh (HB1.out.trans (hb.mono HB1.out.size))
   clear hb
   go_wp2
   exact bodyPost_ret (v:=.tuple #[.slice none 0 0,.int .i64 4]) (by simp only [results,Tryz.results145];go_simp <;> rfl) rfl ⟨none,0,by rw [HR.out];rfl,nw_none,by rw [HR.out];exact Dl.nil,HB2.out⟩
  ·have hE:hrmE l id=0:=by unfold hrmE;rw [if_neg (by simpa using h0),if_neg hi]
   obtain ⟨_,k,hk,hke,_⟩:=hrmE_zero hE
   obtain ⟨m,hm⟩:∃ m,l.length=m+1:=⟨l.length - 1,by omega⟩
   have HR:=Lh (show rmR l id=cuF l k by unfold rmR;rw [if_pos hE,hke];rfl)
   rw [h0] at HVA
   rw [hE]
   rw [hke] at HFI
   rw [hm] at HVA HFI HV ⊢
   have HW:=Lh (fun w1 hv=>rcut_any A m c k l w1 hv (by omega) (by omega))
   have hk0:¬((k:Int)<0):=by omega
   clear h0 hE hi hk hke hm h12
   go_enter Tryz.func145,Tryz.ntmps145
   go_wp2_with fail
   refine (HVA.out _ HV.out).mono ?_
   rintro e w1 ⟨rfl,hb⟩
   have HB1:=Lh hb
   clear hb
   go_wp2_with fail
   refine (HFI.out _ (HV.out.up HB1.out)).mono ?_
   rintro e w2 ⟨rfl,hb⟩
   have HB2:=Lh (HB1.out.trans (hb.mono HB1.out.size))
   clear hb
   go_wp2_with fail
   refine (HW.out _ (HV.out.up HB2.out)).mono ?_
   rintro e w3 ⟨A3,c3,rfl,hnw,hl,hb⟩
   have HB3:=Lh (HB2.out.trans (hb.mono HB2.out.size))
   have HN:=Lh (nw_low hnw HB2.out.size)
   have HL:=Lh hl
   clear hb hnw hl
   go_wp2
   exact bodyPost_ret (v:=.tuple #[.slice A3 (cuF l k).length c3,.int .i64 0]) (by simp only [results,Tryz.results145];go_simp <;> rfl) rfl ⟨A3,c3,by rw [HR.out],HN.out,by rw [HR.out];exact HL.out,HB3.out⟩
 ·have hE:hrmE l id=vaF l:=by unfold hrmE;rw [if_pos h0]
  have HR:=Lh (show rmR l id=[] by unfold rmR;rw [if_neg (by rw [hE];exact h0)])
  have hne:(vaF l != 0)=true:=bne_iff_ne.2 h0
  rw [hE]
  generalize vaF l=x at*
  clear h0 hE
  go_enter Tryz.func145,Tryz.ntmps145
  go_wp2_with fail
  refine (HVA.out _ HV.out).mono ?_
  rintro e w1 ⟨rfl,hb⟩
  have HB1:=Lh hb
  clear hb
  go_wp2
  exact bodyPost_ret (v:=.tuple #[.slice none 0 0,.int .i64 x]) (by simp only [results,Tryz.results145];go_simp <;> rfl) rfl ⟨none,0,by rw [HR.out];rfl,nw_none,by rw [HR.out];exact Dl.nil,HB1.out⟩
theorem rlE_4 {l:List Le} {h:List Du} {id:Int} (h0:tbV l h=0) (hk:kFi Le.id l id<0):rlE l h id=4:=by unfold rlE;rw [if_neg (by simpa using h0),if_pos hk]
theorem rlE_0 {l:List Le} {h:List Du} {id:Int} (h0:tbV l h=0) (hk:¬kFi Le.id l id<0):rlE l h id=0:=by unfold rlE;rw [if_neg (by simpa using h0),if_neg hk]
theorem tme_end {w W:World} {r s d lo lo2 d2:Nat} {D D2:Option Addr} {l:List Le} {h:List Du} (hE:El W W.heap.size (.slice D l.length d) l) (hN:Nw lo D) (h1:r<lo) (h2:s<lo) (hK:Dl W W.heap.size (.slice D2 h.length d2) h) (hN2:Nw lo2 D2) (h3:r<lo2) (h4:s<lo2) (M:Msg) (hb:Below w.heap.size w W) (hl:w.heap.size≤lo) (hl2:w.heap.size≤lo2) (hr:w.heap.size≤r) (hs:w.heap.size≤s) :
  TME w l h M 0 (.returned (.tuple #[.agg #[.slice D l.length d,.slice D2 h.length d2],M.v,.int .i64 0])) (set7 (set2 W r (.slice D l.length d) (.slice D2 h.length d2)) s 0 M):=
 ⟨D,d,D2,d2,rfl,nw_low hN hl,nw_low hN2 hl2,(El.offs hN h2 M.l 0 (hE.set2 hN h1)).more (by simp),(Dl.offs hN2 h4 M.l 0 (hK.set2 hN2 h3)).more (by simp),sets_below hs M.l 0 _ (set2_below hb hr)⟩
theorem tme_drew {w W:World} {l:List Le} {h:List Du} {M:Msg} {x:Int} {e:Ending} (k:TME w l h M x e W):TME w l h M x e W.drew:=by
 obtain ⟨A,c,A2,c2,he,h1,h2,h3,h4,h5⟩:=k
 exact ⟨A,c,A2,c2,he,h1,h2,h3,h4,h5.drew⟩
set_option maxHeartbeats 8000000 in
set_option maxRecDepth 20000 in
theorem rtrelease_any (A:Option Addr) (n c:Nat) (l:List Le) (A2:Option Addr) (n2 c2:Nat) (h:List Du) (id:Int) (w:World) (hv:El w w.heap.size (.slice A n c) l) (hd:Dl w w.heap.size (.slice A2 n2 c2) h) :
  Calls Tryz.prog 94 #[tv A n c A2 n2 c2,.int .i64 id] w (TME w (rlL l h id) (rlH l h id) (rlM l h id) (rlE l h id)):=by
 obtain ⟨rfl,hm1,hm2⟩:=hv.len
 obtain ⟨rfl,hm3,hm4⟩:=hd.len
 have H0:=Lh (RlW.start hv hd 31 44)
 have HW:=Lh hv
 have HV:=Lh (fun p W (k:VaA w p A c l A2 c2 h W)=>rtvalid_any A l.length c l A2 h.length c2 h W k.el k.dl)
 have HFI:=Lh (fun p W (k:VaA w p A c l A2 c2 h W)=>rtfind_any A l.length c l A2 h.length c2 id W k.el)
 have HRM:=Lh (fun p W (k:VaA w p A c l A2 c2 h W)=>rremove5_any A2 h.length c2 h id W k.dl)
 clear hv hd hm1 hm3 hm4
 by_cases h0:tbV l h=0
 ·rw [h0] at HV
  by_cases hk0:kFi Le.id l id<0
  ·have he:rlE l h id=4:=rlE_4 h0 hk0
   obtain ⟨hH,hL,hM⟩:=rlE_ne (l:=l) (h:=h) (id:=id) (by rw [he];decide)
   rw [hH,hL,hM,he]
   generalize kFi Le.id l id=y at*
   clear he hH hL hM h0
   go_enter Tryz.func94,Tryz.ntmps94
   obtain ⟨t0,t1,tl⟩:=H0.out.va.tb
   go_wp2_with fail
   clear t0 t1 tl
   obtain ⟨p,hp⟩:∃ p,p=w.heap.size:=⟨_,rfl⟩
   obtain ⟨r,hr⟩:∃ r,r=w.heap.size+1:=⟨_,rfl⟩
   obtain ⟨s,hs⟩:∃ s,s=w.heap.size+1+1:=⟨_,rfl⟩
   rw [←hs,←hr,←hp] at H0 ⊢
   clear hp hr hs
   generalize (((w.alloc (.cells #[.slice A l.length c,.slice A2 h.length c2] 31)).alloc (.cells #[.slice none 0 0,.slice none 0 0] 31)).alloc (.cells #[.int .i64 0,.int .i64 0,.int .i64 0,.int .i64 0,.int .i64 0,.int .i64 0,.string ⟨#[]⟩] 44))=w1 at*
   refine (HV.out _ _ H0.out.va).mono ?_
   rintro e w2 ⟨rfl,hb⟩
   have H1:=Lh (H0.out.below hb)
   clear hb
   obtain ⟨t0,t1,tl⟩:=H1.out.va.tb
   go_wp2_with fail
   clear t0 t1 tl
   refine (HFI.out _ _ H1.out.va).mono ?_
   rintro e w3 ⟨rfl,hb⟩
   have H2:=Lh (H1.out.below hb)
   clear hb
   obtain ⟨r0,r1,f0,f1,rl⟩:=H2.out.rt
   obtain ⟨s0,s1,s2,s3,s4,s5,s6,g0,g1,g2,g3,g4,g5,g6,sl⟩:=H2.out.rm
   have hrs:¬r=s:=by have:=H2.out.ne;omega
   have hsr:¬s=r:=by have:=H2.out.ne;omega
   have HB:=Lh (show Below w.heap.size w (set7 (set2 w3 r (.slice none 0 0) (.slice none 0 0)) s 0 zM) from sets_below (by have:=H2.out.ne;omega) zM.l 0 _ (set2_below H2.out.va.bel (by have:=H2.out.ne;omega)))
   go_wp2
   exact bodyPost_ret (v:=.tuple #[.agg #[.slice none 0 0,.slice none 0 0],.agg #[.int .i64 0,.int .i64 0,.int .i64 0,.int .i64 0,.int .i64 0,.int .i64 0,.string ⟨#[]⟩],.int .i64 4]) (by simp only [results,Tryz.results94];go_simp <;> rfl) rfl (tme_nil rfl rfl rfl rfl HB.out)
  ·have he:rlE l h id=0:=rlE_0 h0 hk0
   obtain ⟨t,k,hk,hka,_,hH,hL,hM⟩:=rlE_at he
   have hfi:kFi Le.id l id=(k:Int):=by have:=(kAt_fi t.asc (x:=id) (by omega)).1;omega
   rw [hfi] at HFI
   have hrm:hrmE h id=0:=by rw [←rlE_tb t];exact he
   rw [hrm] at HRM
   rw [he,hL,hM,hH]
   have hl12:l.length≤12:=t.len
   obtain ⟨X,hX⟩:∃ X,l[k]=X:=⟨_,rfl⟩
   rw [hX]
   have HXK:=Lh hX
   generalize rmR h id=K at*
   have hk' : (k:Int)<(l.length:Int):=by omega
   have hwr:IntKind.i64.wrap ((k:Int)+1)=(k:Int)+1:=IntWalk.i64_in _ (by omega)
   have hkc:l.length≤c:=HW.out.len.2.1
   have hcut:=run_eupto A l.length c .i64 k (by omega)
   obtain ⟨A',hA',hcut0⟩:=run_ecut A l.length c .i64 (k+1) (by omega)
   have hcut2:∀ W,(Instr.slice 28 (.slice A l.length c) (some (.int .i64 ((k:Int)+1))) none none).run Tryz.prog W=.ok (.slice A' (l.length - (k+1)) (c - (k+1))) W:=fun W=>by
    have:=hcut0 W
    rwa [show ((k+1:Nat):Int)=(k:Int)+1 by omega] at this
   have h1:=HW.out.upto k (by omega)
   have h3:=HW.out.cut (k+1) (by omega)
   rw [←hA'] at h3
   have HE1:=Lh h1
   have HE3:=Lh h3
   have HER:=Lh (eraseIdx_td l k)
   have HLN:=Lh (show (l.take k).length=k∧(l.drop (k+1)).length=l.length - (k+1)∧(l.eraseIdx k).length=k+(l.length - (k+1)) by refine ⟨by simp;omega,by simp,by rw [←eraseIdx_td];simp;omega⟩)
   obtain ⟨LE,hLE⟩:∃ LE,LE=l.eraseIdx k:=⟨_,rfl⟩
   rw [←hLE] at HER HLN ⊢
   have hkk:(k:Int)+1≤(l.length:Int):=by omega
   have hkc' : (k:Int)≤(c:Int):=by omega
   have hk1:(0:Int)≤(k:Int)+1:=by omega
   have hk2:¬((k:Int)<0):=by omega
   obtain ⟨i0,hi0,hz0⟩:=Option.map_eq_some_iff.1 info_lease
   simp only [Prod.mk.injEq] at hz0
   have HI:=Lh hi0
   have HZ:=Lh hz0
   clear he t hka hH hL hM hX hfi hrm h0 hk0 hcut0 hA' h1 h3 hLE hi0 hz0
   go_enter Tryz.func94,Tryz.ntmps94
   obtain ⟨t0,t1,tl⟩:=H0.out.va.tb
   go_wp2_with fail
   clear t0 t1 tl
   obtain ⟨p,hp⟩:∃ p,p=w.heap.size:=⟨_,rfl⟩
   obtain ⟨r,hr⟩:∃ r,r=w.heap.size+1:=⟨_,rfl⟩
   obtain ⟨s,hs⟩:∃ s,s=w.heap.size+1+1:=⟨_,rfl⟩
   rw [←hs,←hr,←hp] at H0 ⊢
   clear hp hr hs
   generalize (((w.alloc (.cells #[.slice A l.length c,.slice A2 h.length c2] 31)).alloc (.cells #[.slice none 0 0,.slice none 0 0] 31)).alloc (.cells #[.int .i64 0,.int .i64 0,.int .i64 0,.int .i64 0,.int .i64 0,.int .i64 0,.string ⟨#[]⟩] 44))=w1 at*
   refine (HV.out _ _ H0.out.va).mono ?_
   rintro e w2 ⟨rfl,hb⟩
   have H1:=Lh (H0.out.below hb)
   clear hb
   obtain ⟨t0,t1,tl⟩:=H1.out.va.tb
   go_wp2_with fail
   clear t0 t1 tl
   refine (HFI.out _ _ H1.out.va).mono ?_
   rintro e w3 ⟨rfl,hb⟩
   have H2:=Lh (H1.out.below hb)
   clear hb
   obtain ⟨t0,t1,tl⟩:=H2.out.va.tb
   go_wp2_with fail
   clear t0 t1 tl
   refine (HRM.out _ _ H2.out.va).mono ?_
   rintro e w4 ⟨A3,c3,rfl,hnw,hl,hb⟩
   have H3:=Lh (H2.out.below hb)
   have HK:=Lh hl
   have HNW:=Lh hnw
   have HB4:=Lh H3.out.va.bel
   clear hb hnw hl
   have HT0:=Lh (show w4.drew.cell? ⟨p,0,none⟩=some (.slice A l.length c) from H3.out.va.tb.1)
   have HD:=Lh (show Below w4.heap.size w4 w4.drew from (Below.refl _ _).drew)
   have HAF:=Lh (fun W (hb:Below w4.heap.size w4 W)=>H3.out.below hb)
   have HP1:=Lh (fun w5 v1 (ho:w5.ownsRow w4.drew.heap.size 56 8 v1 (0+k) ([]++ecs (l.take k))) (hg:w4.drew.grownBy w5 (Value.slice none 0 0).ownBlock)=>show w5.cell? ⟨p,0,none⟩=some (.slice A l.length c)∧Below w4.heap.size w4 w5∧w5.ownsRow w4.heap.size 56 8 v1 k (ecs (l.take k)) from by
    have hb:Below w4.heap.size w4 w5:=HD.out.trans (below_nil hg rfl)
    rw [Nat.zero_add,List.nil_append] at ho
    exact ⟨(HAF.out _ hb).va.tb.1,hb,ho⟩)
   have HP2:=Lh (fun w5 w6 v1 v2 (hb5:Below w4.heap.size w4 w5) (ho1:w5.ownsRow w4.heap.size 56 8 v1 k (ecs (l.take k))) (ho:w6.ownsRow w4.heap.size 56 8 v2 (k+(l.length - (k+1))) (ecs (l.take k)++ecs (l.drop (k+1)))) (hg:w5.grownBy w6 v1.ownBlock)=>show w6.cell? ⟨p,0,none⟩=some (.slice A l.length c)∧Below w4.heap.size w4 w6∧w6.ownsRow w4.heap.size 56 8 v2 LE.length (ecs LE) from by
    have hb:Below w4.heap.size w4 w6:=below_own hb5 ho1 hg
    rw [←ecs_app,HER.out,←HLN.out.2.2] at ho
    exact ⟨(HAF.out _ hb).va.tb.1,hb,ho⟩)
   go_wp2_with fail
   go_region_held3 (fun W=>W.cell? ⟨p,0,none⟩=some (.slice A l.length c))
    (first | with_reducible exact HT0.out | with_reducible exact HT1.out | with_reducible exact HT2.out)
    (first
    | (refine step_append_rd _ (by rfl) _ _ _ (by rfl) w4.heap.size 56 i0 _ 8 72 Tryz.underlying28 HI.out HZ.out.1 HZ.out.2.1 HZ.out.2.2 rfl (by omega) v1 k (ecs (l.take k)) (by rfl) HO1.out _ A' (l.length - (k+1)) (c - (k+1)) (ecs (l.drop (k+1))) (by rfl) ((HE3.out.below (HB4.out.trans (HB5.out.mono HB4.out.size))).rd) (ecs_one _) (by unfold maxLen;omega) (by omega) HB5.out.size ?_;intro v2 w6 hown2 hg2 hat2;obtain ⟨k1,k2,k3⟩:=HP2.out _ _ _ _ HB5.out HO1.out hown2 hg2;have HT2:=Lh k1;have HB6:=Lh k2;have HO2:=Lh k3;clear hown2 hg2 hat2 k1 k2 k3)
    | (refine step_append_rd _ (by rfl) _ _ _ (by rfl) w4.drew.heap.size 56 i0 _ 8 72 Tryz.underlying28 HI.out HZ.out.1 HZ.out.2.1 HZ.out.2.2 rfl (by omega) (.slice none 0 0) 0 [] (by rfl) (World.ownsRow_nil _ _ _ _) _ A k c (ecs (l.take k)) (by rfl) ((HE1.out.below (HB4.out.trans (HD.out.mono HB4.out.size))).rd) (ecs_one _) (by unfold maxLen;omega) (by omega) (Nat.le_refl _) ?_;intro v1 w5 hown1 hg1 hat1;obtain ⟨k1,k2,k3⟩:=HP1.out _ _ hown1 hg1;have HT1:=Lh k1;have HB5:=Lh k2;have HO1:=Lh k3;clear hown1 hg1 hat1 k1 k2 k3))
   obtain ⟨A4,c4,rfl⟩:=own_form HO2.out
   obtain ⟨b,o,rfl,hbw⟩:=HW.out.some_ (by omega)
   have H6:=Lh (HAF.out _ HB6.out)
   have HBR:=Lh (show p≠r∧b≠r∧p≠s∧b≠s∧r≠s by have:=H6.out.ne;omega)
   have HS0:=Lh (fun W (q:RlW w p r s (some ⟨b,o,none⟩) c l A2 c2 h W)=>show W.cell? ⟨p,0,none⟩=some (.slice (some ⟨b,o,none⟩) l.length c)∧W.cell? ⟨b,o+k*8,none⟩=some (.int .i64 X.m.id)∧W.cell? ⟨b,o+k*8+1,none⟩=some (.int .i64 X.m.rt)∧W.cell? ⟨b,o+k*8+2,none⟩=some (.int .i64 X.m.ep)∧W.cell? ⟨b,o+k*8+3,none⟩=some (.int .i64 X.m.ct)∧W.cell? ⟨b,o+k*8+4,none⟩=some (.int .i64 X.m.gn)∧W.cell? ⟨b,o+k*8+5,none⟩=some (.int .i64 X.m.st)∧W.cell? ⟨b,o+k*8+6,none⟩=some (.string X.m.bd) from by
    obtain ⟨⟨c0,c1,c2',c3,c4,c5,c6,c7⟩,_⟩:=q.va.el.c8 hk
    rw [HXK.out] at c0 c1 c2' c3 c4 c5 c6 c7
    exact ⟨q.va.tb.1,c0,c1,c2',c3,c4,c5,c6⟩)
   have HSa:=Lh (fun W v v2 (q:W.cell? ⟨p,0,none⟩=some (.slice (some ⟨b,o,none⟩) l.length c)∧W.cell? ⟨b,o+k*8,none⟩=some (.int .i64 X.m.id)∧W.cell? ⟨b,o+k*8+1,none⟩=some (.int .i64 X.m.rt)∧W.cell? ⟨b,o+k*8+2,none⟩=some (.int .i64 X.m.ep)∧W.cell? ⟨b,o+k*8+3,none⟩=some (.int .i64 X.m.ct)∧W.cell? ⟨b,o+k*8+4,none⟩=some (.int .i64 X.m.gn)∧W.cell? ⟨b,o+k*8+5,none⟩=some (.int .i64 X.m.st)∧W.cell? ⟨b,o+k*8+6,none⟩=some (.string X.m.bd))=>show (set2 W r v v2).cell? ⟨p,0,none⟩=some (.slice (some ⟨b,o,none⟩) l.length c)∧(set2 W r v v2).cell? ⟨b,o+k*8,none⟩=some (.int .i64 X.m.id)∧(set2 W r v v2).cell? ⟨b,o+k*8+1,none⟩=some (.int .i64 X.m.rt)∧(set2 W r v v2).cell? ⟨b,o+k*8+2,none⟩=some (.int .i64 X.m.ep)∧(set2 W r v v2).cell? ⟨b,o+k*8+3,none⟩=some (.int .i64 X.m.ct)∧(set2 W r v v2).cell? ⟨b,o+k*8+4,none⟩=some (.int .i64 X.m.gn)∧(set2 W r v v2).cell? ⟨b,o+k*8+5,none⟩=some (.int .i64 X.m.st)∧(set2 W r v v2).cell? ⟨b,o+k*8+6,none⟩=some (.string X.m.bd) from ⟨(set2_far HBR.out.1).trans q.1,(set2_far HBR.out.2.1).trans q.2.1,(set2_far HBR.out.2.1).trans q.2.2.1,(set2_far HBR.out.2.1).trans q.2.2.2.1,(set2_far HBR.out.2.1).trans q.2.2.2.2.1,(set2_far HBR.out.2.1).trans q.2.2.2.2.2.1,(set2_far HBR.out.2.1).trans q.2.2.2.2.2.2.1,(set2_far HBR.out.2.1).trans q.2.2.2.2.2.2.2⟩)
   have HSb:=Lh (fun W (q:W.cell? ⟨p,0,none⟩=some (.slice (some ⟨b,o,none⟩) l.length c)∧W.cell? ⟨b,o+k*8,none⟩=some (.int .i64 X.m.id)∧W.cell? ⟨b,o+k*8+1,none⟩=some (.int .i64 X.m.rt)∧W.cell? ⟨b,o+k*8+2,none⟩=some (.int .i64 X.m.ep)∧W.cell? ⟨b,o+k*8+3,none⟩=some (.int .i64 X.m.ct)∧W.cell? ⟨b,o+k*8+4,none⟩=some (.int .i64 X.m.gn)∧W.cell? ⟨b,o+k*8+5,none⟩=some (.int .i64 X.m.st)∧W.cell? ⟨b,o+k*8+6,none⟩=some (.string X.m.bd))=>show (set7 W s 0 X.m).cell? ⟨p,0,none⟩=some (.slice (some ⟨b,o,none⟩) l.length c)∧(set7 W s 0 X.m).cell? ⟨b,o+k*8,none⟩=some (.int .i64 X.m.id)∧(set7 W s 0 X.m).cell? ⟨b,o+k*8+1,none⟩=some (.int .i64 X.m.rt)∧(set7 W s 0 X.m).cell? ⟨b,o+k*8+2,none⟩=some (.int .i64 X.m.ep)∧(set7 W s 0 X.m).cell? ⟨b,o+k*8+3,none⟩=some (.int .i64 X.m.ct)∧(set7 W s 0 X.m).cell? ⟨b,o+k*8+4,none⟩=some (.int .i64 X.m.gn)∧(set7 W s 0 X.m).cell? ⟨b,o+k*8+5,none⟩=some (.int .i64 X.m.st)∧(set7 W s 0 X.m).cell? ⟨b,o+k*8+6,none⟩=some (.string X.m.bd) from ⟨(sets_far (p:=⟨p,0,none⟩) HBR.out.2.2.1 0 X.m.l).trans q.1,(sets_far (p:=⟨b,o+k*8,none⟩) HBR.out.2.2.2.1 0 X.m.l).trans q.2.1,(sets_far (p:=⟨b,o+k*8+1,none⟩) HBR.out.2.2.2.1 0 X.m.l).trans q.2.2.1,(sets_far (p:=⟨b,o+k*8+2,none⟩) HBR.out.2.2.2.1 0 X.m.l).trans q.2.2.2.1,(sets_far (p:=⟨b,o+k*8+3,none⟩) HBR.out.2.2.2.1 0 X.m.l).trans q.2.2.2.2.1,(sets_far (p:=⟨b,o+k*8+4,none⟩) HBR.out.2.2.2.1 0 X.m.l).trans q.2.2.2.2.2.1,(sets_far (p:=⟨b,o+k*8+5,none⟩) HBR.out.2.2.2.1 0 X.m.l).trans q.2.2.2.2.2.2.1,(sets_far (p:=⟨b,o+k*8+6,none⟩) HBR.out.2.2.2.1 0 X.m.l).trans q.2.2.2.2.2.2.2⟩)
   have HSd:=Lh (fun (W:World) (q:W.cell? ⟨p,0,none⟩=some (.slice (some ⟨b,o,none⟩) l.length c)∧W.cell? ⟨b,o+k*8,none⟩=some (.int .i64 X.m.id)∧W.cell? ⟨b,o+k*8+1,none⟩=some (.int .i64 X.m.rt)∧W.cell? ⟨b,o+k*8+2,none⟩=some (.int .i64 X.m.ep)∧W.cell? ⟨b,o+k*8+3,none⟩=some (.int .i64 X.m.ct)∧W.cell? ⟨b,o+k*8+4,none⟩=some (.int .i64 X.m.gn)∧W.cell? ⟨b,o+k*8+5,none⟩=some (.int .i64 X.m.st)∧W.cell? ⟨b,o+k*8+6,none⟩=some (.string X.m.bd))=>show W.drew.cell? ⟨p,0,none⟩=some (.slice (some ⟨b,o,none⟩) l.length c)∧W.drew.cell? ⟨b,o+k*8,none⟩=some (.int .i64 X.m.id)∧W.drew.cell? ⟨b,o+k*8+1,none⟩=some (.int .i64 X.m.rt)∧W.drew.cell? ⟨b,o+k*8+2,none⟩=some (.int .i64 X.m.ep)∧W.drew.cell? ⟨b,o+k*8+3,none⟩=some (.int .i64 X.m.ct)∧W.drew.cell? ⟨b,o+k*8+4,none⟩=some (.int .i64 X.m.gn)∧W.drew.cell? ⟨b,o+k*8+5,none⟩=some (.int .i64 X.m.st)∧W.drew.cell? ⟨b,o+k*8+6,none⟩=some (.string X.m.bd) from q)
   have HU:=Lh (HS0.out w6 H6.out)
   have HU0:=Lh (HSd.out w6 HU.out)
   have HV1:=Lh (HSa.out w6 (.slice A4 LE.length c4) (.slice A3 K.length c3) HU.out)
   have HU1:=Lh (HSd.out (set2 w6 r (.slice A4 LE.length c4) (.slice A3 K.length c3)) HV1.out)
   have HU2:=Lh (HSd.out (set7 (set2 w6 r (.slice A4 LE.length c4) (.slice A3 K.length c3)) s 0 X.m) (HSb.out (set2 w6 r (.slice A4 LE.length c4) (.slice A3 K.length c3)) HV1.out))
   have HE6:=Lh (El.of_own HO2.out)
   have HN6:=Lh (nwv_of (nwv_own HO2.out (Nat.le_refl _)))
   have HK6:=Lh (HK.out.up HB6.out)
   have HF0:=Lh (tme_end (w:=w) HE6.out HN6.out (show r<w4.heap.size from H3.out.rt.lt) (show s<w4.heap.size from H3.out.rm.lt) HK6.out HNW.out (show r<w3.heap.size from H2.out.rt.lt) (show s<w3.heap.size from H2.out.rm.lt) X.m H6.out.va.bel H3.out.va.bel.size H2.out.va.bel.size (by have:=H6.out.ne;omega) (by have:=H6.out.ne;omega))
   have HF:=Lh (tme_drew HF0.out)
   obtain ⟨r0,r1,f0,f1,rl⟩:=H6.out.rt
   obtain ⟨s0,s1,s2,s3,s4,s5,s6,g0,g1,g2,g3,g4,g5,g6,sl⟩:=H6.out.rm
   have hrs:¬r=s:=HBR.out.2.2.2.2
   have hsr:¬s=r:=fun e=>HBR.out.2.2.2.2 e.symm
   go_wp2_with fail
   go_region_held3 (fun W=>W.cell? ⟨p,0,none⟩=some (.slice (some ⟨b,o,none⟩) l.length c)∧W.cell? ⟨b,o+k*8,none⟩=some (.int .i64 X.m.id)∧W.cell? ⟨b,o+k*8+1,none⟩=some (.int .i64 X.m.rt)∧W.cell? ⟨b,o+k*8+2,none⟩=some (.int .i64 X.m.ep)∧W.cell? ⟨b,o+k*8+3,none⟩=some (.int .i64 X.m.ct)∧W.cell? ⟨b,o+k*8+4,none⟩=some (.int .i64 X.m.gn)∧W.cell? ⟨b,o+k*8+5,none⟩=some (.int .i64 X.m.st)∧W.cell? ⟨b,o+k*8+6,none⟩=some (.string X.m.bd))
    (first | with_reducible exact HU0.out | with_reducible exact HU1.out | with_reducible exact HU2.out)
    (first | (fail))
   go_wp2
   exact bodyPost_ret (v:=.tuple #[.agg #[.slice A4 LE.length c4,.slice A3 K.length c3],X.m.v,.int .i64 0]) (by simp only [results,Tryz.results94];go_simp <;> rfl) rfl HF.out
 ·have he:=rlE_bad (id:=id) h0
  obtain ⟨hH,hL,hM⟩:=rlE_ne (l:=l) (h:=h) (id:=id) (by rw [he];exact h0)
  have hne:(tbV l h != 0)=true:=bne_iff_ne.2 h0
  rw [hH,hL,hM,he]
  generalize tbV l h=x at*
  clear he hH hL hM h0
  go_enter Tryz.func94,Tryz.ntmps94
  obtain ⟨t0,t1,tl⟩:=H0.out.va.tb
  go_wp2_with fail
  clear t0 t1 tl
  obtain ⟨p,hp⟩:∃ p,p=w.heap.size:=⟨_,rfl⟩
  obtain ⟨r,hr⟩:∃ r,r=w.heap.size+1:=⟨_,rfl⟩
  obtain ⟨s,hs⟩:∃ s,s=w.heap.size+1+1:=⟨_,rfl⟩
  rw [←hs,←hr,←hp] at H0 ⊢
  clear hp hr hs
  generalize (((w.alloc (.cells #[.slice A l.length c,.slice A2 h.length c2] 31)).alloc (.cells #[.slice none 0 0,.slice none 0 0] 31)).alloc (.cells #[.int .i64 0,.int .i64 0,.int .i64 0,.int .i64 0,.int .i64 0,.int .i64 0,.string ⟨#[]⟩] 44))=w1 at*
  refine (HV.out _ _ H0.out.va).mono ?_
  rintro e w2 ⟨rfl,hb⟩
  have H1:=Lh (H0.out.below hb)
  clear hb
  obtain ⟨r0,r1,f0,f1,rl⟩:=H1.out.rt
  obtain ⟨s0,s1,s2,s3,s4,s5,s6,g0,g1,g2,g3,g4,g5,g6,sl⟩:=H1.out.rm
  have hrs:¬r=s:=by have:=H1.out.ne;omega
  have hsr:¬s=r:=by have:=H1.out.ne;omega
  have HB:=Lh (show Below w.heap.size w (set7 (set2 w2 r (.slice none 0 0) (.slice none 0 0)) s 0 zM) from sets_below (by have:=H1.out.ne;omega) zM.l 0 _ (set2_below H1.out.va.bel (by have:=H1.out.ne;omega)))
  go_wp2
  exact bodyPost_ret (v:=.tuple #[.agg #[.slice none 0 0,.slice none 0 0],.agg #[.int .i64 0,.int .i64 0,.int .i64 0,.int .i64 0,.int .i64 0,.int .i64 0,.string ⟨#[]⟩],.int .i64 x]) (by simp only [results,Tryz.results94];go_simp <;> rfl) rfl (tme_nil rfl rfl rfl rfl HB.out)
def SE7 (w:World) (S:Sh) (x:Int) (e:Ending) (w' : World):Prop:=∃ D,e=.returned (.tuple #[sv S D,.int .i64 x])∧SR w' w'.heap.size S D∧Below w.heap.size w w'
theorem SE.to7 {w:World} {S:Sh} {x:Int} {e:Ending} {w' : World} (h:SE w S x e w'):SE7 w S x e w':=by
 obtain ⟨D,h1,-,h2,h3⟩:=h
 exact ⟨D,h1,h2,h3⟩
def SE8 (w:World) (S0:Sh) (D0:Sx) (S:Sh) (x:Int) (e:Ending) (w' : World):Prop:=∃ D,e=.returned (.tuple #[sv S D,.int .i64 x])∧SR w' w'.heap.size S D∧(∀ z,z<w.heap.size→SOff S0 D0 z→SOff S D z)∧Below w.heap.size w w'
theorem SE.to8 {w:World} {S0:Sh} {D0:Sx} {S:Sh} {x:Int} {e:Ending} {w' : World} (h:SE w S x e w'):SE8 w S0 D0 S x e w':=by
 obtain ⟨D,h1,h0,h2,h3⟩:=h
 exact ⟨D,h1,h2,fun z hz _=>h0.off hz,h3⟩
set_option maxHeartbeats 8000000 in
set_option maxRecDepth 20000 in
theorem rack7_any (S:Sh) (D:Sx) (H:Hn) (now ep:Int) (w:World) (hs:SR w w.heap.size S D) :
  Calls Tryz.prog 35 #[sv S D,H.v,.int .i64 now,.int .i64 ep] w (SE8 w S D (if heS S H now ep true=0 then akF S H.id else zS) (heS S H now ep true)):=by
 have e1:(w.alloc (.cells #[.bool S.lv,.int .i64 S.lo,.int .i64 S.hi,.slice D.A S.cs.length D.c,.int .i64 S.hd,.int .i64 S.sz,.slice D.A2 S.l.length D.c2,.slice D.A3 S.h.length D.c3] 33)).heap.size=w.heap.size+1:=by simp
 have e2:((w.alloc (.cells #[.bool S.lv,.int .i64 S.lo,.int .i64 S.hi,.slice D.A S.cs.length D.c,.int .i64 S.hd,.int .i64 S.sz,.slice D.A2 S.l.length D.c2,.slice D.A3 S.h.length D.c3] 33)).alloc (.cells #[.int .i64 H.id,.int .i64 H.gn,.int .i64 H.rt,.int .i64 H.ht] 36)).heap.size=w.heap.size+1+1:=by simp
 have H0:=Lh (((SAt.start 33 hs).alloc (.cells #[.int .i64 H.id,.int .i64 H.gn,.int .i64 H.rt,.int .i64 H.ht] 36)).alloc (.cells #[.bool false,.int .i64 0,.int .i64 0,.slice none 0 0,.int .i64 0,.int .i64 0,.slice none 0 0,.slice none 0 0] 33))
 have Q0:=Lh ((H4.start (w.alloc (.cells #[.bool S.lv,.int .i64 S.lo,.int .i64 S.hi,.slice D.A S.cs.length D.c,.int .i64 S.hd,.int .i64 S.sz,.slice D.A2 S.l.length D.c2,.slice D.A3 S.h.length D.c3] 33)) H 36).up ((Below.refl _ _).alloc (Nat.le_refl _) (.cells #[.bool false,.int .i64 0,.int .i64 0,.slice none 0 0,.int .i64 0,.int .i64 0,.slice none 0 0,.slice none 0 0] 33)))
 have R0:=Lh (SB8.zero ((w.alloc (.cells #[.bool S.lv,.int .i64 S.lo,.int .i64 S.hi,.slice D.A S.cs.length D.c,.int .i64 S.hd,.int .i64 S.sz,.slice D.A2 S.l.length D.c2,.slice D.A3 S.h.length D.c3] 33)).alloc (.cells #[.int .i64 H.id,.int .i64 H.gn,.int .i64 H.rt,.int .i64 H.ht] 36)) 33)
 rw [e1] at Q0
 rw [e2] at R0
 have HHE:=Lh (fun p W (k:SAt w p S D W)=>rheld7_any S D H now ep true W k.sr)
 obtain ⟨x,hx⟩:∃ x,x=heS S H now ep true:=⟨_,rfl⟩
 rw [←hx] at HHE
 rw [←hx]
 have HO:=Lh (fun r (h:w.heap.size≤r)=>hs.offs h)
 have HRL:=Lh (fun p D W (q:SAt w p S D W)=>rtrelease_any D.A2 S.l.length D.c2 S.l D.A3 S.h.length D.c3 S.h H.id W q.sr.el q.sr.dl)
 obtain ⟨T,hT⟩:∃ T,T=akF S H.id:=⟨_,rfl⟩
 obtain ⟨U,hU⟩:∃ U,U=if x=0 then akF S H.id else zS:=⟨_,rfl⟩
 have HUU:=Lh (show U=if x=0 then T else zS from by rw [hU,hT])
 have HTT:=Lh (show T=⟨S.lv,S.lo,S.hi,S.cs,S.hd,S.sz,rlL S.l S.h H.id,rlH S.l S.h H.id⟩ from hT)
 rw [←hU]
 clear hU hT hs hx
 generalize rlL S.l S.h H.id=gl at*
 generalize rlH S.l S.h H.id=gh at*
 generalize rlE S.l S.h H.id=rE at*
 generalize rlM S.l S.h H.id=M at*
 go_enter Tryz.func35,Tryz.ntmps35
 obtain ⟨t0,t1,t2,t3,t4,t5,t6,t7,tl⟩:=H0.out.s8.facts
 obtain ⟨q0,q1,q2,q3,ql⟩:=Q0.out
 go_wp2_with fail
 clear t0 t1 t2 t3 t4 t5 t6 t7 tl q0 q1 q2 q3 ql
 obtain ⟨p,hp⟩:∃ p,p=w.heap.size:=⟨_,rfl⟩
 obtain ⟨q,hq⟩:∃ q,q=w.heap.size+1:=⟨_,rfl⟩
 obtain ⟨r,hr⟩:∃ r,r=w.heap.size+1+1:=⟨_,rfl⟩
 have HPR:=Lh (show (¬p=r∧¬r=p∧¬p=q∧¬q=p)∧w.heap.size≤p∧p<q∧q<r by omega)
 rw [←hr,←hq,←hp]
 rw [←hr] at R0
 rw [←hq] at Q0
 rw [←hp] at H0
 clear e1 e2 hp hq hr
 generalize (((w.alloc (.cells #[.bool S.lv,.int .i64 S.lo,.int .i64 S.hi,.slice D.A S.cs.length D.c,.int .i64 S.hd,.int .i64 S.sz,.slice D.A2 S.l.length D.c2,.slice D.A3 S.h.length D.c3] 33)).alloc (.cells #[.int .i64 H.id,.int .i64 H.gn,.int .i64 H.rt,.int .i64 H.ht] 36)).alloc (.cells #[.bool false,.int .i64 0,.int .i64 0,.slice none 0 0,.int .i64 0,.int .i64 0,.slice none 0 0,.slice none 0 0] 33))=w1 at*
 refine (HHE.out _ _ H0.out).mono ?_
 rintro e w2 ⟨rfl,hb⟩
 have H1:=Lh (H0.out.below hb)
 have Q1:=Lh (Q0.out.up hb)
 have R1:=Lh (R0.out.up hb)
 clear hb HHE H0 Q0 R0
 by_cases hx:x=0
 ·have HX:=Lh hx
  subst hx
  obtain ⟨t0,t1,t2,t3,t4,t5,t6,t7,tl⟩:=H1.out.s8.facts
  obtain ⟨q0,q1,q2,q3,ql⟩:=Q1.out
  go_wp2_with fail
  clear t0 t1 t2 t3 t4 t5 t6 t7 tl q0 q1 q2 q3 ql Q1
  refine (HRL.out _ _ _ H1.out).mono ?_
  rintro e w4 ⟨A3,c3,A4,c4,rfl,n3,n4,h3,h4,hb⟩
  have H4:=Lh (H1.out.below hb)
  have R4:=Lh (R1.out.up hb)
  have H5:=Lh (show SAt w p ⟨S.lv,S.lo,S.hi,S.cs,S.hd,S.sz,gl,gh⟩ ⟨D.A,D.c,A3,c3,A4,c4⟩ (((w4.setCell ⟨p,6,none⟩ (.slice A3 gl.length c3)).setCell ⟨p,7,none⟩ (.slice A4 gh.length c4))) from H4.out.setTab h3 h4 (offb_nw n3 H1.out.lt) (offb_nw n4 H1.out.lt))
  have N5:=Lh (show Nw (r+1) A3∧Nw (r+1) A4 from ⟨nw_low n3 R1.out.lt,nw_low n4 R1.out.lt⟩)
  clear n3 n4 h3 h4 hb
  have HF:=Lh (show SE8 w S D U 0 (.returned (.tuple #[.agg #[.bool S.lv,.int .i64 S.lo,.int .i64 S.hi,.slice D.A S.cs.length D.c,.int .i64 S.hd,.int .i64 S.sz,.slice A3 gl.length c3,.slice A4 gh.length c4],.int .i64 0])) (((((((((((w4.setCell ⟨p,6,none⟩ (.slice A3 gl.length c3)).setCell ⟨p,7,none⟩ (.slice A4 gh.length c4))).setCell ⟨r,0,none⟩ (.bool S.lv)).setCell ⟨r,1,none⟩ (.int .i64 S.lo)).setCell ⟨r,2,none⟩ (.int .i64 S.hi)).setCell ⟨r,3,none⟩ (.slice D.A S.cs.length D.c)).setCell ⟨r,4,none⟩ (.int .i64 S.hd)).setCell ⟨r,5,none⟩ (.int .i64 S.sz)).setCell ⟨r,6,none⟩ (.slice A3 gl.length c3)).setCell ⟨r,7,none⟩ (.slice A4 gh.length c4)) from by
   rw [HUU.out,if_pos trivial,HTT.out]
   have hne:=HPR.out.2
   exact ⟨⟨D.A,D.c,A3,c3,A4,c4⟩,rfl,SR.sets (S:=⟨S.lv,S.lo,S.hi,S.cs,S.hd,S.sz,gl,gh⟩) (D:=⟨D.A,D.c,A3,c3,A4,c4⟩) ⟨(HO.out r (by omega)).o1,offb_nw N5.out.1 (Nat.lt_succ_self r),offb_nw N5.out.2 (Nat.lt_succ_self r)⟩ (Sh.l8 ⟨S.lv,S.lo,S.hi,S.cs,S.hd,S.sz,gl,gh⟩ ⟨D.A,D.c,A3,c3,A4,c4⟩) 0 _ H5.out.sr,fun z hz hZ=>⟨hZ.o1,offb_nw N5.out.1 (show z<r+1 by omega),offb_nw N5.out.2 (show z<r+1 by omega)⟩,set8s_below (show w.heap.size≤r by omega) H5.out.bel ⟨S.lv,S.lo,S.hi,S.cs,S.hd,S.sz,gl,gh⟩ ⟨D.A,D.c,A3,c3,A4,c4⟩⟩)
  obtain ⟨⟨t0,t1,t2,t3,t4,t5,t6,t7,tl⟩,⟨f0,f1,f2,f3,f4,f5,f6,f7⟩⟩:=H4.out.s8.all
  obtain ⟨⟨r0,r1,r2,r3,r4,r5,r6,r7,rl⟩,⟨g0,g1,g2,g3,g4,g5,g6,g7⟩⟩:=R4.out.all
  obtain ⟨⟨hpr,hrp,hpq,hqp⟩,-,-,-⟩:=HPR.out
  go_wp2
  exact bodyPost_ret (v:=.tuple #[.agg #[.bool S.lv,.int .i64 S.lo,.int .i64 S.hi,.slice D.A S.cs.length D.c,.int .i64 S.hd,.int .i64 S.sz,.slice A3 gl.length c3,.slice A4 gh.length c4],.int .i64 0]) (by simp only [results,Tryz.results35];go_simp <;> rfl) rfl HF.out
 ·have hne:(x != 0)=true:=bne_iff_ne.2 hx
  have HF:=Lh (show SE8 w S D U x (.returned (.tuple #[.agg #[.bool false,.int .i64 0,.int .i64 0,.slice none 0 0,.int .i64 0,.int .i64 0,.slice none 0 0,.slice none 0 0],.int .i64 x])) (z8 w2 r) from by
   rw [HUU.out,if_neg hx]
   have hne:=HPR.out.2
   exact (se_zero (by omega) H1.out.bel).to8)
  clear hx
  obtain ⟨⟨r0,r1,r2,r3,r4,r5,r6,r7,rl⟩,⟨g0,g1,g2,g3,g4,g5,g6,g7⟩⟩:=R1.out.all
  go_wp2
  exact bodyPost_ret (v:=.tuple #[.agg #[.bool false,.int .i64 0,.int .i64 0,.slice none 0 0,.int .i64 0,.int .i64 0,.slice none 0 0,.slice none 0 0],.int .i64 x]) (by simp only [results,Tryz.results35];go_simp <;> rfl) rfl HF.out
def SLe7 (w:World) (S:Sh) (l:List Le) (x:Int) (e:Ending) (w' : World):Prop:=∃ D A c,e=.returned (.tuple #[sv S D,.slice A l.length c,.int .i64 x])∧SR w' w'.heap.size S D∧El w' w'.heap.size (.slice A l.length c) l∧Below w.heap.size w w'
def SLe8 (w:World) (S0:Sh) (D0:Sx) (S:Sh) (l:List Le) (x:Int) (e:Ending) (w' : World):Prop:=∃ D A c,e=.returned (.tuple #[sv S D,.slice A l.length c,.int .i64 x])∧SR w' w'.heap.size S D∧El w' w'.heap.size (.slice A l.length c) l∧(∀ z,z<w.heap.size→SOff S0 D0 z→SOff S D z)∧Nw w.heap.size A∧Below w.heap.size w w'
theorem SLe.to8 {w:World} {S0:Sh} {D0:Sx} {S:Sh} {l:List Le} {x:Int} {e:Ending} {w' : World} (h:SLe w S l x e w'):SLe8 w S0 D0 S l x e w':=by
 obtain ⟨D,A,c,h1,h0,h2,hA,h3,h4⟩:=h
 exact ⟨D,A,c,h1,h2,h3,fun z hz _=>h0.off hz,hA,h4⟩
section
variable {S:Sh} {mx now vis ep lim:Int}
theorem tk_rng (hv:shV S=0) (hl:S.lv=true) (h:tkB mx now vis ep lim=false):tkE S mx now vis ep lim=1:=by
 unfold tkE;rw [h,exS_num (b:=false) hv hl rfl];rfl
theorem tk_exh (hv:shV S=0) (hl:S.lv=true) (h:tkB mx now vis ep lim=true) (hd:1073741824<now+vis):tkE S mx now vis ep lim=6:=by
 unfold tkE;rw [h,exS_ok (b:=true) hv hl rfl,if_neg (by decide),if_pos hd]
theorem tk_fine (hv:shV S=0) (hl:S.lv=true) (h:tkB mx now vis ep lim=true) (hd:¬1073741824<now+vis):tkE S mx now vis ep lim=0:=by
 unfold tkE;rw [h,exS_ok (b:=true) hv hl rfl,if_neg (by decide),if_neg hd]
theorem tk_ex (h:exS S true≠0):tkE S mx now vis ep lim=exS S true:=by
 have e:∀ c,exS S c=exS S true:=fun c=>by
  unfold exS at h ⊢
  by_cases h1:shV S≠0
  ·rw [if_pos h1,if_pos h1]
  ·rw [if_neg h1] at h
   rw [if_neg h1,if_neg h1]
   by_cases h2:S.lv=false
   ·rw [if_pos h2,if_pos h2]
   ·rw [if_neg h2] at h;exact absurd rfl h
 unfold tkE;rw [e,if_pos h]
end
set_option maxHeartbeats 8000000 in
set_option maxRecDepth 20000 in
theorem rtake7_bad (S:Sh) (D:Sx) (mx now vis ep lim:Int) (w:World) (hs:SR w w.heap.size S D) (hE:tkE S mx now vis ep lim≠0) :
  Calls Tryz.prog 32 #[sv S D,.int .i64 mx,.int .i64 now,.int .i64 vis,.int .i64 ep,.int .i64 lim] w (SLe8 w S D zS [] (tkE S mx now vis ep lim)):=by
 have e1:(w.alloc (.cells #[.bool S.lv,.int .i64 S.lo,.int .i64 S.hi,.slice D.A S.cs.length D.c,.int .i64 S.hd,.int .i64 S.sz,.slice D.A2 S.l.length D.c2,.slice D.A3 S.h.length D.c3] 33)).heap.size=w.heap.size+1:=by simp
 have H0:=Lh ((SAt.start 33 hs).alloc (.cells #[.bool false,.int .i64 0,.int .i64 0,.slice none 0 0,.int .i64 0,.int .i64 0,.slice none 0 0,.slice none 0 0] 33))
 have R0:=Lh (SB8.zero (w.alloc (.cells #[.bool S.lv,.int .i64 S.lo,.int .i64 S.hi,.slice D.A S.cs.length D.c,.int .i64 S.hd,.int .i64 S.sz,.slice D.A2 S.l.length D.c2,.slice D.A3 S.h.length D.c3] 33)) 33)
 rw [e1] at R0
 have HV:=Lh (fun p W (k:SAt w p S D W)=>rlive7_any S D W k.sr)
 have HEP:=Lh (fun W=>repochs_any ep W)
 have HLI:=Lh (fun W=>rlimits_any lim W)
 have HTI:=Lh (fun W=>rtimes_any now W)
 have HVI:=Lh (fun W=>rvis_any vis W)
 have HRG:=Lh (fun hv hl h=>tk_rng (S:=S) (mx:=mx) (now:=now) (vis:=vis) (ep:=ep) (lim:=lim) hv hl h)
 have HEX:=Lh (fun hv hl h hd=>tk_exh (S:=S) (mx:=mx) (now:=now) (vis:=vis) (ep:=ep) (lim:=lim) hv hl h hd)
 have HZE:=Lh (fun hv hl h hd=>tk_fine (S:=S) (mx:=mx) (now:=now) (vis:=vis) (ep:=ep) (lim:=lim) hv hl h hd)
 have HNX:=Lh (fun h=>tk_ex (S:=S) (mx:=mx) (now:=now) (vis:=vis) (ep:=ep) (lim:=lim) h)
 clear hs
 generalize tkE S mx now vis ep lim=y at*
 go_enter Tryz.func32,Tryz.ntmps32
 obtain ⟨t0,t1,t2,t3,t4,t5,t6,t7,tl⟩:=H0.out.s8.facts
 go_wp2_with fail
 clear t0 t1 t2 t3 t4 t5 t6 t7 tl
 obtain ⟨p,hp⟩:∃ p,p=w.heap.size:=⟨_,rfl⟩
 obtain ⟨r,hr⟩:∃ r,r=w.heap.size+1:=⟨_,rfl⟩
 have HPR:=Lh (show w.heap.size≤p∧p<r by omega)
 rw [←hr,←hp]
 rw [←hr] at R0
 rw [←hp] at H0
 clear e1 hp hr
 generalize (w.alloc (.cells #[.bool S.lv,.int .i64 S.lo,.int .i64 S.hi,.slice D.A S.cs.length D.c,.int .i64 S.hd,.int .i64 S.sz,.slice D.A2 S.l.length D.c2,.slice D.A3 S.h.length D.c3] 33)).alloc (.cells #[.bool false,.int .i64 0,.int .i64 0,.slice none 0 0,.int .i64 0,.int .i64 0,.slice none 0 0,.slice none 0 0] 33)=w1 at*
 refine (HV.out _ _ H0.out).mono ?_
 rintro e w2 ⟨rfl,hb⟩
 have H1:=Lh (H0.out.below hb)
 have R1:=Lh (R0.out.up hb)
 clear hb H0 R0
 by_cases hx:exS S true=0
 ·obtain ⟨hv,hlv,-⟩:=exS_zero hx
  rw [hx]
  clear hx HNX
  cases hb0:wi ep 0 65536 with
  | false=>
   have HY:=Lh (HRG.out hv hlv (by unfold tkB;rw [hb0];simp))
   rw [hb0] at HEP
   clear hv hlv HRG HEX
   go_wp2_with fail
   refine (HEP.out _).mono ?_
   rintro e w3 ⟨rfl,hw⟩
   replace hw:=hw.symm
   subst hw
   have HF:=Lh (show SLe8 w S D zS [] y (.returned (.tuple #[.agg #[.bool false,.int .i64 0,.int .i64 0,.slice none 0 0,.int .i64 0,.int .i64 0,.slice none 0 0,.slice none 0 0],.slice none 0 0,.int .i64 1])) (z8 w2 r) from by
    rw [HY.out]
    exact (sle_zero (by have:=HPR.out;omega) H1.out.bel).to8)
   obtain ⟨⟨r0,r1,r2,r3,r4,r5,r6,r7,rl⟩,⟨g0,g1,g2,g3,g4,g5,g6,g7⟩⟩:=R1.out.all
   go_wp2
   exact bodyPost_ret (v:=.tuple #[.agg #[.bool false,.int .i64 0,.int .i64 0,.slice none 0 0,.int .i64 0,.int .i64 0,.slice none 0 0,.slice none 0 0],.slice none 0 0,.int .i64 1]) (by simp only [results,Tryz.results32];go_simp <;> rfl) rfl HF.out
  | true=>
   cases hb1:wi lim 1 8 with
   | false=>
    have HY:=Lh (HRG.out hv hlv (by unfold tkB;rw [hb1];simp))
    rw [hb0] at HEP
    rw [hb1] at HLI
    clear hv hlv HRG HEX
    go_wp2_with fail
    refine (HEP.out _).mono ?_
    rintro e w3 ⟨rfl,hw⟩
    replace hw:=hw.symm
    subst hw
    go_wp2_with fail
    refine (HLI.out _).mono ?_
    rintro e w3 ⟨rfl,hw⟩
    replace hw:=hw.symm
    subst hw
    have HF:=Lh (show SLe8 w S D zS [] y (.returned (.tuple #[.agg #[.bool false,.int .i64 0,.int .i64 0,.slice none 0 0,.int .i64 0,.int .i64 0,.slice none 0 0,.slice none 0 0],.slice none 0 0,.int .i64 1])) (z8 w2 r) from by
     rw [HY.out]
     exact (sle_zero (by have:=HPR.out;omega) H1.out.bel).to8)
    obtain ⟨⟨r0,r1,r2,r3,r4,r5,r6,r7,rl⟩,⟨g0,g1,g2,g3,g4,g5,g6,g7⟩⟩:=R1.out.all
    go_wp2
    exact bodyPost_ret (v:=.tuple #[.agg #[.bool false,.int .i64 0,.int .i64 0,.slice none 0 0,.int .i64 0,.int .i64 0,.slice none 0 0,.slice none 0 0],.slice none 0 0,.int .i64 1]) (by simp only [results,Tryz.results32];go_simp <;> rfl) rfl HF.out
   | true=>
    cases hb2:wi now 0 1073741824 with
    | false=>
     have HY:=Lh (HRG.out hv hlv (by unfold tkB;rw [hb2];simp))
     rw [hb0] at HEP
     rw [hb1] at HLI
     rw [hb2] at HTI
     clear hv hlv HRG HEX
     go_wp2_with fail
     refine (HEP.out _).mono ?_
     rintro e w3 ⟨rfl,hw⟩
     replace hw:=hw.symm
     subst hw
     go_wp2_with fail
     refine (HLI.out _).mono ?_
     rintro e w3 ⟨rfl,hw⟩
     replace hw:=hw.symm
     subst hw
     go_wp2_with fail
     refine (HTI.out _).mono ?_
     rintro e w3 ⟨rfl,hw⟩
     replace hw:=hw.symm
     subst hw
     have HF:=Lh (show SLe8 w S D zS [] y (.returned (.tuple #[.agg #[.bool false,.int .i64 0,.int .i64 0,.slice none 0 0,.int .i64 0,.int .i64 0,.slice none 0 0,.slice none 0 0],.slice none 0 0,.int .i64 1])) (z8 w2 r) from by
      rw [HY.out]
      exact (sle_zero (by have:=HPR.out;omega) H1.out.bel).to8)
     obtain ⟨⟨r0,r1,r2,r3,r4,r5,r6,r7,rl⟩,⟨g0,g1,g2,g3,g4,g5,g6,g7⟩⟩:=R1.out.all
     go_wp2
     exact bodyPost_ret (v:=.tuple #[.agg #[.bool false,.int .i64 0,.int .i64 0,.slice none 0 0,.int .i64 0,.int .i64 0,.slice none 0 0,.slice none 0 0],.slice none 0 0,.int .i64 1]) (by simp only [results,Tryz.results32];go_simp <;> rfl) rfl HF.out
    | true=>
     cases hb3:wi vis 0 1000 with
     | false=>
      have HY:=Lh (HRG.out hv hlv (by unfold tkB;rw [hb3];simp))
      rw [hb0] at HEP
      rw [hb1] at HLI
      rw [hb2] at HTI
      rw [hb3] at HVI
      clear hv hlv HRG HEX
      go_wp2_with fail
      refine (HEP.out _).mono ?_
      rintro e w3 ⟨rfl,hw⟩
      replace hw:=hw.symm
      subst hw
      go_wp2_with fail
      refine (HLI.out _).mono ?_
      rintro e w3 ⟨rfl,hw⟩
      replace hw:=hw.symm
      subst hw
      go_wp2_with fail
      refine (HTI.out _).mono ?_
      rintro e w3 ⟨rfl,hw⟩
      replace hw:=hw.symm
      subst hw
      go_wp2_with fail
      refine (HVI.out _).mono ?_
      rintro e w3 ⟨rfl,hw⟩
      replace hw:=hw.symm
      subst hw
      have HF:=Lh (show SLe8 w S D zS [] y (.returned (.tuple #[.agg #[.bool false,.int .i64 0,.int .i64 0,.slice none 0 0,.int .i64 0,.int .i64 0,.slice none 0 0,.slice none 0 0],.slice none 0 0,.int .i64 1])) (z8 w2 r) from by
       rw [HY.out]
       exact (sle_zero (by have:=HPR.out;omega) H1.out.bel).to8)
      obtain ⟨⟨r0,r1,r2,r3,r4,r5,r6,r7,rl⟩,⟨g0,g1,g2,g3,g4,g5,g6,g7⟩⟩:=R1.out.all
      go_wp2
      exact bodyPost_ret (v:=.tuple #[.agg #[.bool false,.int .i64 0,.int .i64 0,.slice none 0 0,.int .i64 0,.int .i64 0,.slice none 0 0,.slice none 0 0],.slice none 0 0,.int .i64 1]) (by simp only [results,Tryz.results32];go_simp <;> rfl) rfl HF.out
     | true=>
      by_cases hm1:mx<1
      ·have HY:=Lh (HRG.out hv hlv (by unfold tkB;rw [wi_low hm1];simp))
       rw [hb0] at HEP
       rw [hb1] at HLI
       rw [hb2] at HTI
       rw [hb3] at HVI
       clear hv hlv HRG HEX
       go_wp2_with fail
       refine (HEP.out _).mono ?_
       rintro e w3 ⟨rfl,hw⟩
       replace hw:=hw.symm
       subst hw
       go_wp2_with fail
       refine (HLI.out _).mono ?_
       rintro e w3 ⟨rfl,hw⟩
       replace hw:=hw.symm
       subst hw
       go_wp2_with fail
       refine (HTI.out _).mono ?_
       rintro e w3 ⟨rfl,hw⟩
       replace hw:=hw.symm
       subst hw
       go_wp2_with fail
       refine (HVI.out _).mono ?_
       rintro e w3 ⟨rfl,hw⟩
       replace hw:=hw.symm
       subst hw
       have HF:=Lh (show SLe8 w S D zS [] y (.returned (.tuple #[.agg #[.bool false,.int .i64 0,.int .i64 0,.slice none 0 0,.int .i64 0,.int .i64 0,.slice none 0 0,.slice none 0 0],.slice none 0 0,.int .i64 1])) (z8 w2 r) from by
        rw [HY.out]
        exact (sle_zero (by have:=HPR.out;omega) H1.out.bel).to8)
       obtain ⟨⟨r0,r1,r2,r3,r4,r5,r6,r7,rl⟩,⟨g0,g1,g2,g3,g4,g5,g6,g7⟩⟩:=R1.out.all
       go_wp2
       exact bodyPost_ret (v:=.tuple #[.agg #[.bool false,.int .i64 0,.int .i64 0,.slice none 0 0,.int .i64 0,.int .i64 0,.slice none 0 0,.slice none 0 0],.slice none 0 0,.int .i64 1]) (by simp only [results,Tryz.results32];go_simp <;> rfl) rfl HF.out
      ·by_cases hm2:6<mx
       ·have HY:=Lh (HRG.out hv hlv (by unfold tkB;rw [show wi mx 1 6=false by unfold wi;exact decide_eq_false (by omega)];simp))
        rw [hb0] at HEP
        rw [hb1] at HLI
        rw [hb2] at HTI
        rw [hb3] at HVI
        clear hv hlv HRG HEX
        go_wp2_with fail
        refine (HEP.out _).mono ?_
        rintro e w3 ⟨rfl,hw⟩
        replace hw:=hw.symm
        subst hw
        go_wp2_with fail
        refine (HLI.out _).mono ?_
        rintro e w3 ⟨rfl,hw⟩
        replace hw:=hw.symm
        subst hw
        go_wp2_with fail
        refine (HTI.out _).mono ?_
        rintro e w3 ⟨rfl,hw⟩
        replace hw:=hw.symm
        subst hw
        go_wp2_with fail
        refine (HVI.out _).mono ?_
        rintro e w3 ⟨rfl,hw⟩
        replace hw:=hw.symm
        subst hw
        have HF:=Lh (show SLe8 w S D zS [] y (.returned (.tuple #[.agg #[.bool false,.int .i64 0,.int .i64 0,.slice none 0 0,.int .i64 0,.int .i64 0,.slice none 0 0,.slice none 0 0],.slice none 0 0,.int .i64 1])) (z8 w2 r) from by
         rw [HY.out]
         exact (sle_zero (by have:=HPR.out;omega) H1.out.bel).to8)
        obtain ⟨⟨r0,r1,r2,r3,r4,r5,r6,r7,rl⟩,⟨g0,g1,g2,g3,g4,g5,g6,g7⟩⟩:=R1.out.all
        go_wp2
        exact bodyPost_ret (v:=.tuple #[.agg #[.bool false,.int .i64 0,.int .i64 0,.slice none 0 0,.int .i64 0,.int .i64 0,.slice none 0 0,.slice none 0 0],.slice none 0 0,.int .i64 1]) (by simp only [results,Tryz.results32];go_simp <;> rfl) rfl HF.out
       ·have hB:tkB mx now vis ep lim=true:=by unfold tkB;rw [hb0,hb1,hb2,hb3,wi_true (show 1≤mx by omega) (show mx≤6 by omega)];rfl
        have hn1:=wi_of hb2
        have hn2:=wi_of hb3
        have hwr:wrap64 (now+vis)=now+vis:=IntWalk.wrap64_in _ (by omega)
        rw [hb0] at HEP
        rw [hb1] at HLI
        rw [hb2] at HTI
        rw [hb3] at HVI
        clear hn1 hn2
        by_cases hdl:1073741824<now+vis
        ·have HY:=Lh (HEX.out hv hlv hB hdl)
         clear hv hlv HRG HEX
         go_wp2_with fail
         refine (HEP.out _).mono ?_
         rintro e w3 ⟨rfl,hw⟩
         replace hw:=hw.symm
         subst hw
         go_wp2_with fail
         refine (HLI.out _).mono ?_
         rintro e w3 ⟨rfl,hw⟩
         replace hw:=hw.symm
         subst hw
         go_wp2_with fail
         refine (HTI.out _).mono ?_
         rintro e w3 ⟨rfl,hw⟩
         replace hw:=hw.symm
         subst hw
         go_wp2_with fail
         refine (HVI.out _).mono ?_
         rintro e w3 ⟨rfl,hw⟩
         replace hw:=hw.symm
         subst hw
         have HF:=Lh (show SLe8 w S D zS [] y (.returned (.tuple #[.agg #[.bool false,.int .i64 0,.int .i64 0,.slice none 0 0,.int .i64 0,.int .i64 0,.slice none 0 0,.slice none 0 0],.slice none 0 0,.int .i64 6])) (z8 w2 r) from by
          rw [HY.out]
          exact (sle_zero (by have:=HPR.out;omega) H1.out.bel).to8)
         obtain ⟨⟨r0,r1,r2,r3,r4,r5,r6,r7,rl⟩,⟨g0,g1,g2,g3,g4,g5,g6,g7⟩⟩:=R1.out.all
         go_wp2
         exact bodyPost_ret (v:=.tuple #[.agg #[.bool false,.int .i64 0,.int .i64 0,.slice none 0 0,.int .i64 0,.int .i64 0,.slice none 0 0,.slice none 0 0],.slice none 0 0,.int .i64 6]) (by simp only [results,Tryz.results32];go_simp <;> rfl) rfl HF.out
        ·exact absurd (HZE.out hv hlv hB (by omega)) hE
 ·have hne:(exS S true != 0)=true:=bne_iff_ne.2 hx
  have HY:=Lh (HNX.out hx)
  clear hx HNX HRG HEX HZE hE
  generalize exS S true=x at*
  have HF:=Lh (show SLe8 w S D zS [] y (.returned (.tuple #[.agg #[.bool false,.int .i64 0,.int .i64 0,.slice none 0 0,.int .i64 0,.int .i64 0,.slice none 0 0,.slice none 0 0],.slice none 0 0,.int .i64 x])) (z8 w2 r) from by
   rw [HY.out]
   exact (sle_zero (by have:=HPR.out;omega) H1.out.bel).to8)
  obtain ⟨⟨r0,r1,r2,r3,r4,r5,r6,r7,rl⟩,⟨g0,g1,g2,g3,g4,g5,g6,g7⟩⟩:=R1.out.all
  go_wp2
  exact bodyPost_ret (v:=.tuple #[.agg #[.bool false,.int .i64 0,.int .i64 0,.slice none 0 0,.int .i64 0,.int .i64 0,.slice none 0 0,.slice none 0 0],.slice none 0 0,.int .i64 x]) (by simp only [results,Tryz.results32];go_simp <;> rfl) rfl HF.out
end Go.Proofs.YtdobenkkkkaipaaGreat
