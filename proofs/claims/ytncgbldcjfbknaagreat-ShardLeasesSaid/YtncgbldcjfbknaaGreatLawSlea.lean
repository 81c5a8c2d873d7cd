/- What is proved here: shardqueuelaw07.ShardLeases returns true for every input and leaves its argument as it was. No condition. -/
import Derived.Test.YtncgbldcjfbknaaGreatJ33
import Derived.Test.YtncgbldcjfbknaaGreatJ32
import Derived.ProofKit
import Derived.OpenShut
import Derived.ShutString
import Derived.ChangeOld
namespace Go.Proofs.YtncgbldcjfbknaaGreat
open Go.RowKit
set_option linter.unusedVariables false
set_option maxHeartbeats 16000000 in
set_option maxRecDepth 20000 in
theorem ShardLeases_walk (w:World) (a0:Option Addr) (l0 c0:Nat) (zs:List Int) (hz:Ns w w.heap.size (.slice a0 l0 c0) zs) :
  Calls Tryz.prog 4 #[.slice a0 l0 c0] w fun e w'=>e=.returned (.bool true)∧Below w.heap.size w w':=by
 have HN:=Lh (new_src a0 l0 c0 zs w hz)
 have HAW:=Lh (fun W=>awake7_any W)
 clear hz
 go_enter Tryz.func4,Tryz.ntmps4
 go_wp2_with fail
 refine HN.out.mono ?_
 rintro e w1 ⟨g,rfl,hs,hb⟩
 have HW1:=Lh hb
 have HS1:=Lh hs
 have HBG:=Lh (show w.heap.size≤g from hs.1)
 have HG1:=Lh hs.2.1
 clear hb hs HN
 go_wp2_with fail
 refine (shard_any w.heap.size g _ HS1.out).mono ?_
 rintro e w2 ⟨S,D,rfl,hS,hn,hr,hs,hg⟩
 have HSR:=Lh hS
 have HA:=Lh (SAt.made 33 (below_only HW1.out hg HBG.out (Nat.le_refl _)) hr)
 have HGO:=Lh (show SOff S D g from hn.off HG1.out)
 have HSS:=Lh (hs.alloc (.cells #[.bool S.lv,.int .i64 S.lo,.int .i64 S.hi,.slice D.A S.cs.length D.c,.int .i64 S.hd,.int .i64 S.sz,.slice D.A2 S.l.length D.c2,.slice D.A3 S.h.length D.c3] 33))
 have HNE:=Lh (show w2.heap.size≠g by have:=hs.2.1;omega)
 clear hS hn hr hs hg HS1 HW1
 go_wp2_with fail
 obtain ⟨p,hp⟩:∃ p,p=w2.heap.size:=⟨_,rfl⟩
 rw [←hp] at HA HNE ⊢
 clear hp
 generalize w2.alloc (.cells #[.bool S.lv,.int .i64 S.lo,.int .i64 S.hi,.slice D.A S.cs.length D.c,.int .i64 S.hd,.int .i64 S.sz,.slice D.A2 S.l.length D.c2,.slice D.A3 S.h.length D.c3] 33)=w3 at*
 refine (range_any w.heap.size g _ HSS.out 1 4 (by omega) (by omega) (by omega)).mono ?_
 rintro e w4 ⟨mx,rfl,m1,m2,hs,hg⟩
 have HA4:=Lh (HA.out.grownG hg HGO.out HNE.out HBG.out)
 have HS4:=Lh hs
 have HM:=Lh (And.intro m1 m2)
 clear hs hg m1 m2 HA HSS
 go_wp2_with fail
 refine (n_any w.heap.size g _ HS4.out 30 (by omega) (by omega)).mono ?_
 rintro e w5 ⟨now,rfl,m1,m2,hs,hg⟩
 have HA5:=Lh (HA4.out.grownG hg HGO.out HNE.out HBG.out)
 have HS5:=Lh hs
 have HNO:=Lh (And.intro m1 m2)
 clear hs hg m1 m2 HA4 HS4
 go_wp2_with fail
 refine (n_any w.heap.size g _ HS5.out 20 (by omega) (by omega)).mono ?_
 rintro e w6 ⟨vis,rfl,m1,m2,hs,hg⟩
 have HA6:=Lh (HA5.out.grownG hg HGO.out HNE.out HBG.out)
 have HS6:=Lh hs
 have HVI:=Lh (And.intro m1 m2)
 clear hs hg m1 m2 HA5 HS5
 go_wp2_with fail
 refine (n_any w.heap.size g _ HS6.out 3 (by omega) (by omega)).mono ?_
 rintro e w7 ⟨ep,rfl,m1,m2,hs,hg⟩
 have HA7:=Lh (HA6.out.grownG hg HGO.out HNE.out HBG.out)
 have HS7:=Lh hs
 have HEP:=Lh (And.intro m1 m2)
 clear hs hg m1 m2 HA6 HS6
 go_wp2_with fail
 refine (range_any w.heap.size g _ HS7.out 1 4 (by omega) (by omega) (by omega)).mono ?_
 rintro e w8 ⟨lim,rfl,m1,m2,hs,hg⟩
 have HA8:=Lh ((HA7.out.grownG hg HGO.out HNE.out HBG.out).alloc (.cells #[.int .i64 mx,.int .i64 now,.int .i64 vis,.int .i64 ep,.int .i64 lim,.int .i64 0,.int .i64 0,.int .i64 0] 37))
 have HLI:=Lh (And.intro m1 m2)
 clear hs hg m1 m2 HA7 HS7 HGO HNE HBG HG1
 have HTK:=Lh (take_cases HSR.out D (mx:=mx) (now:=now) (vis:=vis) (ep:=ep) (lim:=lim) (by
   have:=HM.out;have:=HNO.out;have:=HVI.out;have:=HEP.out;have:=HLI.out
   unfold tkB
   rw [wi_true (by omega) (by omega),wi_true (by omega) (by omega),wi_true (by omega) (by omega),wi_true (by omega) (by omega),wi_true (by omega) (by omega)];rfl) (by have:=HNO.out;have:=HVI.out;omega))
 clear HSR
 obtain ⟨t0,t1,t2,t3,t4,t5,t6,t7,tl⟩:=HA8.out.s8.facts
 go_wp2_with fail
 clear t0 t1 t2 t3 t4 t5 t6 t7 tl
 have HD:=Lh (D5.start w8 mx now vis ep lim 0 0 0 37)
 obtain ⟨d,hd⟩:∃ d,d=w8.heap.size:=⟨_,rfl⟩
 rw [←hd] at HD ⊢
 clear hd HM HEP
 generalize w8.alloc (.cells #[.int .i64 mx,.int .i64 now,.int .i64 vis,.int .i64 ep,.int .i64 lim,.int .i64 0,.int .i64 0,.int .i64 0] 37)=w9 at*
 rcases HTK.out with ⟨T,K,hlv,hz4,hK,hLX,hC⟩ | ⟨hlv,hC⟩
 ·refine (hC _ HA8.out.sr).mono ?_
  rintro e w10 ⟨E,A0,c1,rfl,hn,hr,hnw,hel,hb⟩
  have HLW:=Lh (show LwAt w p d w10.heap.size S T D E mx now vis ep lim A0 c1 K (w10.alloc (.cells #[.bool T.lv,.int .i64 T.lo,.int .i64 T.hi,.slice E.A T.cs.length E.c,.int .i64 T.hd,.int .i64 T.sz,.slice E.A2 T.l.length E.c2,.slice E.A3 T.h.length E.c3] 33)) from ⟨(HA8.out.below hb).alloc _,SAt.made _ (HA8.out.bel.trans (hb.mono HA8.out.bel.size)) hr,(HD.out.up hb).up ((Below.refl _ _).alloc (Nat.le_refl _) _),(hel.below ((Below.refl _ _).alloc (Nat.le_refl _) _)).more (by simp)⟩)
  have HLX:=Lh hLX
  have HZ4:=Lh hz4
  have HK12:=Lh hK
  clear hlv hz4 hK hLX hC hn hr hnw hel hb HTK HA8 HD
  go_wp2_with fail
  obtain ⟨s,hs⟩:∃ s,s=w10.heap.size:=⟨_,rfl⟩
  rw [←hs] at HLW ⊢
  clear hs
  generalize w10.alloc (.cells #[.bool T.lv,.int .i64 T.lo,.int .i64 T.hi,.slice E.A T.cs.length E.c,.int .i64 T.hd,.int .i64 T.sz,.slice E.A2 T.l.length E.c2,.slice E.A3 T.h.length E.c3] 33)=w11 at*
  go_loopw [9] (fun i wr=>∃ (k:Nat) (A1:Option Addr),k≤K.length∧i=.int .i64 k∧A1=A0∧Hid (LwAt w p d s S T D E mx now vis ep lim A1 c1 K wr)) (fun i _=>K.length - (intOf i).toNat)
  case atStart=>exact ⟨0,A0,Nat.zero_le _,rfl,rfl,HLW⟩
  case round=>
   clear HLW
   obtain ⟨k,A1,hk,rfl,hA,HL⟩:=hrel
   have hl64:K.length≤9223372036854775807:=by have:=HK12.out;omega
   by_cases hlt:k<K.length
   ·obtain ⟨b,o,hA1,hbl,x0,x1,x2,x3,x4,x5,x6,x7⟩:=HL.out.el.at_ hlt
    rw [hA] at hA1 HL
    clear hA A1
    subst hA1
    have HX:=Lh (HLX.out k hlt)
    clear HLX
    generalize K[k]=X at*
    obtain ⟨⟨ei,er,ee,ec,eg,es,eb⟩,ed⟩:=X
    simp only at x0 x1 x2 x3 x4 x5 x6 x7
    have HL2:=Lh ((HL.out.below ((Below.refl _ _).alloc (Nat.le_refl _) (.cells #[.int .i64 ei,.int .i64 er,.int .i64 ee,.int .i64 ec,.int .i64 eg,.int .i64 es,.string eb] 56))).below ((Below.refl _ _).alloc (Nat.le_refl _) (.cells #[.int .i64 ei,.int .i64 eg,.int .i64 er,.int .i64 0] 40)))
    have HQ:=Lh (H4.start (wr.alloc (.cells #[.int .i64 ei,.int .i64 er,.int .i64 ee,.int .i64 ec,.int .i64 eg,.int .i64 es,.string eb] 56)) ⟨ei,eg,er,0⟩ 40)
    have e1:(wr.alloc (.cells #[.int .i64 ei,.int .i64 er,.int .i64 ee,.int .i64 ec,.int .i64 eg,.int .i64 es,.string eb] 56)).heap.size=wr.heap.size+1:=by simp
    rw [e1] at HQ
    clear e1
    obtain ⟨q,hq⟩:∃ q,q=wr.heap.size+1:=⟨_,rfl⟩
    have HB13:=Lh (show Below wr.heap.size wr ((wr.alloc (.cells #[.int .i64 ei,.int .i64 er,.int .i64 ee,.int .i64 ec,.int .i64 eg,.int .i64 es,.string eb] 56)).alloc (.cells #[.int .i64 ei,.int .i64 eg,.int .i64 er,.int .i64 0] 40)) from ((Below.refl _ _).alloc (Nat.le_refl _) _).alloc (by simp) _)
    have HX7:=Lh x7
    have HBL:=Lh hbl
    go_upto_region 12 with (fail)
    rw [←hq] at HQ ⊢
    clear x0 x1 x2 x3 x4 x5 x6 x7 hq
    generalize ((wr.alloc (.cells #[.int .i64 ei,.int .i64 er,.int .i64 ee,.int .i64 ec,.int .i64 eg,.int .i64 es,.string eb] 56)).alloc (.cells #[.int .i64 ei,.int .i64 eg,.int .i64 er,.int .i64 0] 40))=w13 at*
    obtain ⟨q0,q1,q2,q3,ql⟩:=HQ.out
    simp only at q0 q1 q2 q3
    have HB14:=Lh (show Below w13.heap.size w13 ((w13.alloc (.cells #[.int .i64 ei,.int .i64 eg,.int .i64 er,.int .i64 0] 40)).alloc (.cells #[.int .i64 ei,.int .i64 eg,.int .i64 er,.int .i64 0] 40)).drew from (((Below.refl _ _).alloc (Nat.le_refl _) _).alloc (by simp) _).drew)
    have HN0:=Lh (h4_drew ((h4_new w13 40 ei eg er).up ((Below.refl _ _).alloc (Nat.le_refl _) (.cells #[.int .i64 ei,.int .i64 eg,.int .i64 er,.int .i64 0] 40))))
    have HN1:=Lh (h4_drew (h4_new (w13.alloc (.cells #[.int .i64 ei,.int .i64 eg,.int .i64 er,.int .i64 0] 40)) 40 ei eg er))
    have e1:(w13.alloc (.cells #[.int .i64 ei,.int .i64 eg,.int .i64 er,.int .i64 0] 40)).heap.size=w13.heap.size+1:=by simp
    rw [e1] at HN1
    clear e1
    have HNN:=Lh (show ¬w13.heap.size=w13.heap.size+1∧¬w13.heap.size+1=w13.heap.size∧w13.heap.size≤w13.heap.size∧w13.heap.size≤w13.heap.size+1∧(q<w13.heap.size∧d<w13.heap.size) by have:=HL2.out.d5.lt;omega)
    have HNM:=Lh (show ¬w13.heap.size+1=w13.heap.size∧¬w13.heap.size=w13.heap.size+1∧w13.heap.size≤w13.heap.size+1∧w13.heap.size≤w13.heap.size∧(q<w13.heap.size∧d<w13.heap.size) by have:=HL2.out.d5.lt;omega)
    go_cut [12,13] (fun s12 s13 wx=>∃ a z:Nat,s12=.pointer (some ⟨a,0,none⟩)∧s13=.pointer (some ⟨z,0,none⟩)∧Hid (Below w13.heap.size w13 wx)∧Hid (H4f wx a ⟨ei,eg,er,0⟩)∧Hid (H4f wx z ⟨ei,eg,er,0⟩)∧Hid (¬a=z∧¬z=a∧w13.heap.size≤a∧w13.heap.size≤z∧(q<w13.heap.size∧d<w13.heap.size)))
    case first=>
     go_region
     all_goals (go_wp2_with fail;go_meet;first | exact ⟨_,_,rfl,rfl,HB14,HN0,HN1,HNN⟩ | exact ⟨_,_,rfl,rfl,HB14,HN1,HN0,HNM⟩)
    case rest=>
     clear HN0 HN1 HNN HNM HB14 q0 q1 q2 q3 ql HL
     obtain ⟨a,z,rfl,rfl,HB14,HNA,HNZ,HAZ⟩:=hcut
     have HL14:=Lh (HL2.out.below HB14.out)
     have HQ14:=Lh (HQ.out.up HB14.out)
     generalize wc=w14 at*
     obtain ⟨q0,q1,q2,q3,ql⟩:=HQ14.out
     obtain ⟨⟨y0,y1,y2,y3,yl⟩,yf⟩:=HNA.out
     obtain ⟨⟨z0,z1,z2,z3,zl⟩,zf⟩:=HNZ.out
     have yf1:=yf 1
     have zf2:=zf 2
     clear yf zf
     simp only at q0 q1 q2 q3 y0 y1 y2 y3 z0 z1 z2 z3
     obtain ⟨d0,d1,d2,d3,d4,dl⟩:=HL14.out.d5
     obtain ⟨haz,hza,hqa,haq,hqz,hzq,hda,had,hdz,hzd⟩:¬a=z∧¬z=a∧¬q=a∧¬a=q∧¬q=z∧¬z=q∧¬d=a∧¬a=d∧¬d=z∧¬z=d:=by have:=HAZ.out;omega
     have hc1:1≤eg∧eg≤65536:=HX.out.c1
     have hc2:0≤er∧er≤65535:=HX.out.c2
     obtain ⟨hc1,hc1'⟩:=hc1
     obtain ⟨hc2,hc2'⟩:=hc2
     obtain ⟨hn1,hn2⟩:=HNO.out
     obtain ⟨hv1,hv2⟩:=HVI.out
     go_upto_region 16 with (fail)
     have HB15:=Lh ((HB14.out.setCell (p:=⟨a,1,none⟩) HAZ.out.2.2.1 (.int .i64 (eg - 1))).setCell (p:=⟨z,2,none⟩) HAZ.out.2.2.2.1 (.int .i64 ((er+1) % 65536)))
     have HU:=Lh (show LuAt w p d s q a z S T D E mx now vis ep lim ei eg er (eg - 1) ((er+1) % 65536) (some ⟨b,o,none⟩) c1 K ((w14.setCell ⟨a,1,none⟩ (.int .i64 (eg - 1))).setCell ⟨z,2,none⟩ (.int .i64 ((er+1) % 65536))) from ⟨HL2.out.below HB15.out,HQ.out.up HB15.out,(h4_two HNA.out.1 HNZ.out.1 HAZ.out.1 HAZ.out.2.1).1,(h4_two HNA.out.1 HNZ.out.1 HAZ.out.1 HAZ.out.2.1).2⟩)
     have x7:=((HB13.out.trans (HB15.out.mono HB13.out.size)).cell (p:=⟨b,o+k*8+7,none⟩) HBL.out).trans HX7.out
     have hed:ed=now+vis:=HX.out.dl
     clear q0 q1 q2 q3 ql y0 y1 y2 y3 yl z0 z1 z2 z3 zl yf1 zf2 d0 d1 d2 d3 d4 dl haz hza hqa haq hqz hzq hda had hdz hzd HB15 HL2 HQ HL14 HQ14 HNA HNZ HAZ HB14 HB13 HBL HX7
     generalize ((w14.setCell ⟨a,1,none⟩ (.int .i64 (eg - 1))).setCell ⟨z,2,none⟩ (.int .i64 ((er+1) % 65536)))=w15 at*
     subst hed
     have HH1:=Lh (fun W (h:LuAt w p d s q a z S T D E mx now vis ep lim ei eg er (eg - 1) ((er+1) % 65536) (some ⟨b,o,none⟩) c1 K W)=>holds_is h.lw.sb (show hoF T ⟨ei,eg,er,0⟩ (now+vis) ep=false from HX.out.a1))
     have HH3:=Lh (fun W (h:LuAt w p d s q a z S T D E mx now vis ep lim ei eg er (eg - 1) ((er+1) % 65536) (some ⟨b,o,none⟩) c1 K W)=>holds_is h.lw.sb (show hoF T ⟨ei,eg - 1,er,0⟩ now ep=false from HX.out.a3))
     have HH4:=Lh (fun W (h:LuAt w p d s q a z S T D E mx now vis ep lim ei eg er (eg - 1) ((er+1) % 65536) (some ⟨b,o,none⟩) c1 K W)=>holds_is h.lw.sb (show hoF T ⟨ei,eg,(er+1) % 65536,0⟩ now ep=false from HX.out.a4))
     have HH5:=Lh (fun W (h:LuAt w p d s q a z S T D E mx now vis ep lim ei eg er (eg - 1) ((er+1) % 65536) (some ⟨b,o,none⟩) c1 K W)=>holds_is h.lw.sa (show hoF S ⟨ei,eg,er,0⟩ now ep=false from HX.out.a5))
     have HST:=Lh (show 1≤stF T∧stF T≤24 from HX.out.c3)
     by_cases hv:0<vis
     ·have HH2:=Lh (fun W (h:LuAt w p d s q a z S T D E mx now vis ep lim ei eg er (eg - 1) ((er+1) % 65536) (some ⟨b,o,none⟩) c1 K W)=>holds_is h.lw.sb (show hoF T ⟨ei,eg,er,0⟩ (now+vis - 1) ep=true from HX.out.a2 hv))
      have HAK:=Lh (fun W (h:LuAt w p d s q a z S T D E mx now vis ep lim ei eg er (eg - 1) ((er+1) % 65536) (some ⟨b,o,none⟩) c1 K W)=>ack_is h.lw.sb HZ4.out (show heS T ⟨ei,eg,er,0⟩ now ep true=0 from HX.out.b1 hv))
      have HNK:=Lh (fun W (h:LuAt w p d s q a z S T D E mx now vis ep lim ei eg er (eg - 1) ((er+1) % 65536) (some ⟨b,o,none⟩) c1 K W)=>nack_is h.lw.sb (show heS T ⟨ei,eg,er,0⟩ now ep (wi lim 1 8)=0 from HX.out.b2 hv))
      have HB3:=Lh (show hoF (akF T ei) ⟨ei,eg,er,0⟩ now ep=false from HX.out.b3)
      have HB4:=Lh (show hoF (gbN T ei lim) ⟨ei,eg,er,0⟩ now ep=false from HX.out.b4)
      have HB5:=Lh (show stF (akF T ei)=stF T - 1 from HX.out.b5)
      have HB6:=Lh (show stF (gbN T ei lim)=stF T from HX.out.b6)
      clear HX
      generalize akF T ei=F1 at*
      generalize gbN T ei lim=F2 at*
      obtain ⟨st,hst⟩:∃ st,st=stF T:=⟨_,rfl⟩
      rw [←hst] at HB5 HB6 HST
      have HB7:=Lh hst.symm
      clear hst
      obtain ⟨x1,hx1⟩:∃ x1,x1=st - 1:=⟨_,rfl⟩
      rw [←hx1] at HB5
      have HSW:=Lh (show IntKind.i64.wrap (st - 1)=x1 from by rw [hx1];exact IntWalk.i64_in _ (by have:=HST.out;omega))
      clear hx1
      have hvn:¬vis=0:=by omega
      obtain ⟨s0,s1,s2,s3,s4,s5,s6,s7,sl⟩:=HU.out.lw.sb.s8.facts
      obtain ⟨q0,q1,q2,q3,ql⟩:=HU.out.hq
      simp only at q0 q1 q2 q3
      obtain ⟨d0,d1,d2,d3,d4,dl⟩:=HU.out.lw.d5
      go_wp2_with fail
      clear q0 q1 q2 q3 ql d0 d1 d2 d3 d4 dl s0 s1 s2 s3 s4 s5 s6 s7 sl x7
      refine (HH1.out _ HU.out).mono ?_
      rintro e w16 ⟨rfl,hb⟩
      have HU2:=Lh (HU.out.below hb)
      clear hb HU HH1
      obtain ⟨s0,s1,s2,s3,s4,s5,s6,s7,sl⟩:=HU2.out.lw.sb.s8.facts
      obtain ⟨q0,q1,q2,q3,ql⟩:=HU2.out.hq
      simp only at q0 q1 q2 q3
      obtain ⟨d0,d1,d2,d3,d4,dl⟩:=HU2.out.lw.d5
      go_wp2_with fail
      clear q0 q1 q2 q3 ql d0 d1 d2 d3 d4 dl s0 s1 s2 s3 s4 s5 s6 s7 sl
      refine (HH2.out _ HU2.out).mono ?_
      rintro e w17 ⟨rfl,hb⟩
      have HU3:=Lh (HU2.out.below hb)
      clear hb HU2 HH2
      obtain ⟨s0,s1,s2,s3,s4,s5,s6,s7,sl⟩:=HU3.out.lw.sb.s8.facts
      obtain ⟨q0,q1,q2,q3,ql⟩:=HU3.out.ha
      simp only at q0 q1 q2 q3
      obtain ⟨d0,d1,d2,d3,d4,dl⟩:=HU3.out.lw.d5
      go_wp2_with fail
      clear q0 q1 q2 q3 ql d0 d1 d2 d3 d4 dl s0 s1 s2 s3 s4 s5 s6 s7 sl
      refine (HH3.out _ HU3.out).mono ?_
      rintro e w18 ⟨rfl,hb⟩
      have HU4:=Lh (HU3.out.below hb)
      clear hb HU3 HH3
      obtain ⟨s0,s1,s2,s3,s4,s5,s6,s7,sl⟩:=HU4.out.lw.sb.s8.facts
      obtain ⟨q0,q1,q2,q3,ql⟩:=HU4.out.hz
      simp only at q0 q1 q2 q3
      obtain ⟨d0,d1,d2,d3,d4,dl⟩:=HU4.out.lw.d5
      go_wp2_with fail
      clear q0 q1 q2 q3 ql d0 d1 d2 d3 d4 dl s0 s1 s2 s3 s4 s5 s6 s7 sl
      refine (HH4.out _ HU4.out).mono ?_
      rintro e w19 ⟨rfl,hb⟩
      have HU5:=Lh (HU4.out.below hb)
      clear hb HU4 HH4
      obtain ⟨s0,s1,s2,s3,s4,s5,s6,s7,sl⟩:=HU5.out.lw.sa.s8.facts
      obtain ⟨q0,q1,q2,q3,ql⟩:=HU5.out.hq
      simp only at q0 q1 q2 q3
      obtain ⟨d0,d1,d2,d3,d4,dl⟩:=HU5.out.lw.d5
      go_wp2_with fail
      clear q0 q1 q2 q3 ql d0 d1 d2 d3 d4 dl s0 s1 s2 s3 s4 s5 s6 s7 sl
      refine (HH5.out _ HU5.out).mono ?_
      rintro e w20 ⟨rfl,hb⟩
      have HU6:=Lh (HU5.out.below hb)
      clear hb HU5 HH5
      obtain ⟨q0,q1,q2,q3,ql⟩:=HU6.out.hq
      simp only at q0 q1 q2 q3
      obtain ⟨d0,d1,d2,d3,d4,dl⟩:=HU6.out.lw.d5
      obtain ⟨s0,s1,s2,s3,s4,s5,s6,s7,sl⟩:=HU6.out.lw.sb.s8.facts
      go_wp2_with fail
      clear q0 q1 q2 q3 ql d0 d1 d2 d3 d4 dl s0 s1 s2 s3 s4 s5 s6 s7 sl
      refine (HAK.out _ HU6.out).mono ?_
      rintro e w21 ⟨D3,rfl,hn,hr,hb⟩
      have HU7:=Lh ((HU6.out.below hb).below ((Below.refl _ _).alloc (Nat.le_refl _) (.cells #[.bool F1.lv,.int .i64 F1.lo,.int .i64 F1.hi,.slice D3.A F1.cs.length D3.c,.int .i64 F1.hd,.int .i64 F1.sz,.slice D3.A2 F1.l.length D3.c2,.slice D3.A3 F1.h.length D3.c3] 33)))
      have HF1:=Lh (SAt.made 33 (HU6.out.lw.sa.bel.trans (hb.mono HU6.out.lw.sa.bel.size)) hr)
      clear hn hr hb HU6 HAK
      obtain ⟨q0,q1,q2,q3,ql⟩:=HU7.out.hq
      simp only at q0 q1 q2 q3
      obtain ⟨d0,d1,d2,d3,d4,dl⟩:=HU7.out.lw.d5
      obtain ⟨s0,s1,s2,s3,s4,s5,s6,s7,sl⟩:=HU7.out.lw.sb.s8.facts
      go_wp2_with fail
      clear q0 q1 q2 q3 ql d0 d1 d2 d3 d4 dl s0 s1 s2 s3 s4 s5 s6 s7 sl
      obtain ⟨u,hu⟩:∃ u,u=w21.heap.size:=⟨_,rfl⟩
      rw [←hu] at HF1 ⊢
      clear hu
      generalize w21.alloc (.cells #[.bool F1.lv,.int .i64 F1.lo,.int .i64 F1.hi,.slice D3.A F1.cs.length D3.c,.int .i64 F1.hd,.int .i64 F1.sz,.slice D3.A2 F1.l.length D3.c2,.slice D3.A3 F1.h.length D3.c3] 33)=w22 at*
      refine (HNK.out _ HU7.out).mono ?_
      rintro e w23 ⟨D4,rfl,hn,hr,hb⟩
      have HM0:=Lh (show LzAt w p d s q a z u w23.heap.size S T F1 F2 D E D3 D4 mx now vis ep lim ei eg er (eg - 1) ((er+1) % 65536) (some ⟨b,o,none⟩) c1 K (w23.alloc (.cells #[.bool F2.lv,.int .i64 F2.lo,.int .i64 F2.hi,.slice D4.A F2.cs.length D4.c,.int .i64 F2.hd,.int .i64 F2.sz,.slice D4.A2 F2.l.length D4.c2,.slice D4.A3 F2.h.length D4.c3] 33)) from ⟨(HU7.out.below hb).below ((Below.refl _ _).alloc (Nat.le_refl _) _),(HF1.out.below hb).below ((Below.refl _ _).alloc (Nat.le_refl _) _),SAt.made 33 (HU7.out.lw.sa.bel.trans (hb.mono HU7.out.lw.sa.bel.size)) hr⟩)
      clear hn hr hb HU7 HNK HF1
      go_upto_region 21 with (fail)
      obtain ⟨v,hv0⟩:∃ v,v=w23.heap.size:=⟨_,rfl⟩
      rw [←hv0] at HM0 ⊢
      clear hv0
      generalize w23.alloc (.cells #[.bool F2.lv,.int .i64 F2.lo,.int .i64 F2.hi,.slice D4.A F2.cs.length D4.c,.int .i64 F2.hd,.int .i64 F2.sz,.slice D4.A2 F2.l.length D4.c2,.slice D4.A3 F2.h.length D4.c3] 33)=w24 at*
      have HC1:=Lh (fun W (h:LzAt w p d s q a z u v S T F1 F2 D E D3 D4 mx now vis ep lim ei eg er (eg - 1) ((er+1) % 65536) (some ⟨b,o,none⟩) c1 K W)=>holds_is h.s1 HB3.out)
      have HC2:=Lh (fun W (h:LzAt w p d s q a z u v S T F1 F2 D E D3 D4 mx now vis ep lim ei eg er (eg - 1) ((er+1) % 65536) (some ⟨b,o,none⟩) c1 K W)=>holds_is h.s2 HB4.out)
      have HC3:=Lh (fun W (h:LzAt w p d s q a z u v S T F1 F2 D E D3 D4 mx now vis ep lim ei eg er (eg - 1) ((er+1) % 65536) (some ⟨b,o,none⟩) c1 K W)=>st_is h.s1 HB5.out)
      have HC4:=Lh (fun W (h:LzAt w p d s q a z u v S T F1 F2 D E D3 D4 mx now vis ep lim ei eg er (eg - 1) ((er+1) % 65536) (some ⟨b,o,none⟩) c1 K W)=>st_is h.s2 HB6.out)
      have HC5:=Lh (fun W (h:LzAt w p d s q a z u v S T F1 F2 D E D3 D4 mx now vis ep lim ei eg er (eg - 1) ((er+1) % 65536) (some ⟨b,o,none⟩) c1 K W)=>st_is h.lu.lw.sb HB7.out)
      have HM:=Lh (HM0.out.below (Below.refl _ _).drew)
      have HT:=Lh HM.out.k
      clear HB3 HB4 HB5 HB6 HB7 HM0
      have hws:IntKind.i64.wrap (st - 1)=x1:=HSW.out
      have hxx:(x1 != x1)=false:=by simp
      have hst:(st != st)=false:=by simp
      go_region_held3 (fun W=>LzK d s q u v T F1 F2 E D3 D4 now ep ei eg er W)
       (with_reducible exact HT.out)
       (first
       | (go_at_call 23;(with_reducible refine (HC1.out _ HM.out).mono ?_);rintro e w' ⟨rfl,hb⟩;have HM:=Lh (HM.out.below hb);have HT:=Lh HM.out.k;clear hb)
       | (go_at_call 23;(with_reducible refine (HC2.out _ HM.out).mono ?_);rintro e w' ⟨rfl,hb⟩;have HM:=Lh (HM.out.below hb);have HT:=Lh HM.out.k;clear hb)
       | (go_at_call 24;(with_reducible refine (HC3.out _ HM.out).mono ?_);rintro e w' ⟨rfl,hb⟩;have HM:=Lh (HM.out.below hb);have HT:=Lh HM.out.k;clear hb)
       | (go_at_call 24;(with_reducible refine (HC4.out _ HM.out).mono ?_);rintro e w' ⟨rfl,hb⟩;have HM:=Lh (HM.out.below hb);have HT:=Lh HM.out.k;clear hb)
       | (go_at_call 24;(with_reducible refine (HC5.out _ HM.out).mono ?_);rintro e w' ⟨rfl,hb⟩;have HM:=Lh (HM.out.below hb);have HT:=Lh HM.out.k;clear hb))
      have HFI:=Lh HM.out.lu.lw
      clear HT HM hws hxx hst
      go_wp2
      go_roundw
      case rel=>exact ⟨k+1,_,by omega,by go_num,rfl,HFI⟩
      case measure=>simp [intOf];omega
     ·clear HX
      have hv0:vis=0:=by omega
      have HV0:=Lh hv0
      clear hv0
      obtain ⟨s0,s1,s2,s3,s4,s5,s6,s7,sl⟩:=HU.out.lw.sb.s8.facts
      obtain ⟨q0,q1,q2,q3,ql⟩:=HU.out.hq
      simp only at q0 q1 q2 q3
      obtain ⟨d0,d1,d2,d3,d4,dl⟩:=HU.out.lw.d5
      go_wp2_with fail
      clear q0 q1 q2 q3 ql d0 d1 d2 d3 d4 dl s0 s1 s2 s3 s4 s5 s6 s7 sl x7
      refine (HH1.out _ HU.out).mono ?_
      rintro e w16 ⟨rfl,hb⟩
      have HU2:=Lh (HU.out.below hb)
      clear hb HU HH1
      obtain ⟨s0,s1,s2,s3,s4,s5,s6,s7,sl⟩:=HU2.out.lw.sb.s8.facts
      obtain ⟨q0,q1,q2,q3,ql⟩:=HU2.out.ha
      simp only at q0 q1 q2 q3
      obtain ⟨d0,d1,d2,d3,d4,dl⟩:=HU2.out.lw.d5
      go_wp2_with fail
      clear q0 q1 q2 q3 ql d0 d1 d2 d3 d4 dl s0 s1 s2 s3 s4 s5 s6 s7 sl
      refine (HH3.out _ HU2.out).mono ?_
      rintro e w18 ⟨rfl,hb⟩
      have HU4:=Lh (HU2.out.below hb)
      clear hb HU2 HH3
      obtain ⟨s0,s1,s2,s3,s4,s5,s6,s7,sl⟩:=HU4.out.lw.sb.s8.facts
      obtain ⟨q0,q1,q2,q3,ql⟩:=HU4.out.hz
      simp only at q0 q1 q2 q3
      obtain ⟨d0,d1,d2,d3,d4,dl⟩:=HU4.out.lw.d5
      go_wp2_with fail
      clear q0 q1 q2 q3 ql d0 d1 d2 d3 d4 dl s0 s1 s2 s3 s4 s5 s6 s7 sl
      refine (HH4.out _ HU4.out).mono ?_
      rintro e w19 ⟨rfl,hb⟩
      have HU5:=Lh (HU4.out.below hb)
      clear hb HU4 HH4
      obtain ⟨s0,s1,s2,s3,s4,s5,s6,s7,sl⟩:=HU5.out.lw.sa.s8.facts
      obtain ⟨q0,q1,q2,q3,ql⟩:=HU5.out.hq
      simp only at q0 q1 q2 q3
      obtain ⟨d0,d1,d2,d3,d4,dl⟩:=HU5.out.lw.d5
      go_wp2_with fail
      clear q0 q1 q2 q3 ql d0 d1 d2 d3 d4 dl s0 s1 s2 s3 s4 s5 s6 s7 sl
      refine (HH5.out _ HU5.out).mono ?_
      rintro e w20 ⟨rfl,hb⟩
      have HU6:=Lh (HU5.out.below hb)
      clear hb HU5 HH5
      have hv2:vis≤0:=by rw [HV0.out];exact Int.le_refl _
      have HFI:=Lh HU6.out.lw
      obtain ⟨d0,d1,d2,d3,d4,dl⟩:=HU6.out.lw.d5
      go_wp2
      go_roundw
      case rel=>exact ⟨k+1,_,by omega,by go_num,rfl,HFI⟩
      case measure=>simp [intOf];omega
   ·obtain rfl:k=K.length:=by omega
    have HB:=Lh HL.out.sa.bel
    go_wp2_with fail
    refine (HAW.out _).mono ?_
    rintro e w12 ⟨rfl,hb⟩
    have HB2:=Lh (HB.out.trans (hb.mono HB.out.size))
    clear hb
    go_wp2
    go_ret
    exact ⟨rfl,HB2.out⟩
 ·refine (hC _ HA8.out.sr).mono ?_
  rintro e w10 ⟨E,A0,c1,rfl,hn,hr,hnw,hel,hb⟩
  have HAB:=Lh ((HA8.out.below hb).alloc (.cells #[.bool zS.lv,.int .i64 zS.lo,.int .i64 zS.hi,.slice E.A zS.cs.length E.c,.int .i64 zS.hd,.int .i64 zS.sz,.slice E.A2 zS.l.length E.c2,.slice E.A3 zS.h.length E.c3] 33))
  have t0:(w10.alloc (.cells #[.bool zS.lv,.int .i64 zS.lo,.int .i64 zS.hi,.slice E.A zS.cs.length E.c,.int .i64 zS.hd,.int .i64 zS.sz,.slice E.A2 zS.l.length E.c2,.slice E.A3 zS.h.length E.c3] 33)).cell? ⟨p,0,none⟩=some (.bool false):=by rw [←hlv];exact HAB.out.s8.c0
  clear hlv hC hn hr hnw hel hb HTK HA8 HD
  go_wp2_with fail
  refine (HAW.out _).mono ?_
  rintro e w12 ⟨rfl,hb⟩
  have HB:=Lh (HAB.out.bel.trans (hb.mono HAB.out.bel.size))
  clear hb t0
  go_wp2
  go_ret
  exact ⟨rfl,HB.out⟩
/-! The row's step, as the guide's shell has it. -/
namespace shardLeases
open Go.ChangeShapes Go.WideShapes Go.ChangeAt
open Go.ChangeMaps (open_string shut_string)
theorem own:ownKnob Tryz.prog.godebug=none:=by kernel_rfl
theorem laidOut:laidOutB Tryz.prog=true:=by kernel_rfl
set_option maxRecDepth 100000 in
theorem lifted (os:Os) (started:os.Started) (H:Type) (enc:TypeId×Value→H) :
  ReturnsInHanded {} Tryz.checked os 4 .any (Rows.shardLeasesSpec.pre6 enc Tryz.prog Tryz.f4 Rows.shardLeasesRow.domain false) (Rows.shardLeasesSpec.post enc Tryz.prog Tryz.f4 false true false false):=by
 refine returnsInHanded_of_change (C:=Tryz.checked) own started (by kernel_rfl) Tryz.func4
  (ChangeSpec.witness6 (enc:=enc) (C:=Tryz.checked) false ⟨#[],#[.slice none 0 0],[]⟩ 8 (by kernel_rfl) (by kernel_rfl) (by kernel_rfl) (by kernel_rfl)) ?_
 intro W base args ds gs before hval0 hW hcnd _
 have hval:∀ (j:Nat) t v,Tryz.f4.params[j]? = some t→args[j]? = some v→Value.okWide Tryz.prog W .any base t v:=hval0
 have hW':=hW
 obtain ⟨p,q,hA0,hV,rfl,hfz,hnd⟩:=hW
 have hA:DataW.TrodAll enc Tryz.prog W 0 (fun _=>true) true Tryz.f4.params.toList args.toList ds p:=hA0
 rw [Tryz.params4] at hA hval
 obtain ⟨v0,vs0,d0,ds0,p0,q0,hargs,rfl,rfl,h0,r0⟩:=trodAll_cons hA
 obtain ⟨rfl,rfl,rfl⟩:=trodAll_nil r0
 obtain rfl:args = #[v0]:=by cases args;simp_all
 obtain ⟨rfl,rfl⟩:=trodVars_none hV
 obtain ⟨a0,len0,cap0,rfl⟩:=okWide_slice Tryz.underlying22 (hval 0 22 v0 rfl rfl)
 have k0:=h0
 have lt0:∀ x∈p0,x.block<W.heap.size:=by obtain ⟨m,hm⟩:=k0;exact DataW.trod_lt m _ _ _ hm
 obtain ⟨z0,w0⟩:∃ zs,Ns W W.heap.size (.slice a0 len0 cap0) zs:=by
  obtain ⟨fuel,hf⟩:=h0
  rcases open_ints Tryz.underlying22 Tryz.underlying3 (by kernel_rfl) hf with ⟨hcs,_⟩ | ⟨x,l,c,zs,hcs,_,hl,hm,hz,_,hcell,hwz⟩
  ·simp [Value.cells] at hcs
   obtain ⟨rfl,rfl,rfl⟩:=hcs
   exact ⟨[],Ns.nil⟩
  ·simp [Value.cells] at hcs
   obtain ⟨rfl,rfl,rfl⟩:=hcs
   exact Ns.of_cells hl hm (by simpa using hz) hcell hwz
 clear hA0 hval0
 refine (ShardLeases_walk W a0 len0 cap0 z0 w0).mono fun e W' ⟨he,bel⟩=>?_
 subst he
 exact ⟨_,rfl,_,_,_,[],_,[],hW',trodAll_mk1 (shut_bool Tryz.underlying4 _),(trodAll_cons_mk (Below.trod laidOut (by kernel_rfl) (of_decide_eq_true (by kernel_rfl)) k0 bel lt0) trodAll_mk0),rfl,bel.frame _,fun h=>by cases h⟩
theorem over:Rows.shardLeasesRow.holds Tryz.pinned (OpenSpec.ofChange Rows.shardLeasesSpec):=
 OpenClaim.holds_of_wide 4 Tryz.f4 rfl rfl rfl rfl rfl rfl rfl ⟨rfl,rfl,rfl,rfl,rfl⟩ rfl rfl rfl rfl rfl (by kernel_rfl) Tryz.func4 (by kernel_rfl)
  (of_decide_eq_true (by kernel_rfl)) (by unfold Func.isWrapper;first | (rw [if_pos (by decide +kernel)];kernel_rfl) | (rw [if_neg (by decide +kernel)];exact ⟨rfl,rfl⟩))
  (fun os started H enc _=>lifted os started H enc)
/-- The statement. -/
theorem proved:Rows.ShardLeasesSaid:=over
#print axioms proved
end shardLeases
end Go.Proofs.YtncgbldcjfbknaaGreat
