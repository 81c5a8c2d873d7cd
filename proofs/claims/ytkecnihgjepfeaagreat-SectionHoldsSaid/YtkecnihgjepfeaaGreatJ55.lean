/- What is proved here: parts of the proof: Hsc. -/
import Derived.Test.YtkecnihgjepfeaaGreatJ53
namespace Go.Proofs.YtkecnihgjepfeaaGreat
open Go.RowKit
set_option linter.unusedVariables false
set_option linter.unusedSimpArgs false
set_option maxHeartbeats 8000000
set_option maxRecDepth 20000
theorem hsP16_2:hsP16.val.2:=by
 intro w a1 l1 c1 zs yb1 w1 g ws su N A0 w2 yb2 u1 w3 w4 cc cs bc oc HCS C HCT S0 HCK yb3 yb4 u3 yb5 yb6 yb7 yb8 yb9 u9 u10 u11 u12 u13 u14 u15 yb10 yb11 yb12 yb13 yb14 yb15 yb16 yb17 yb18 yb19 yb20 yb21 yb22 yb23 yb24 yb25 yb26 yb27 yb28 yb29 yb30 yb31 yb32 yb33 yb34 yb35 yb36 yb37 yb38 yb39 yb40 yb41 yb42 yb43 yb44 yb45 yb46 yb47 yb48 yb49 yb50 yb51 yb52 yb53 yb54 yb55 yb56 yb57 yb58 yb59 yb60 yb61 yb62 yb63 yb64 yb65 yb66 yb67 yb68 yb69 yb70 yb71 yb72 yb73 yb74 yb75 yb76 yb77 yb78 yb79 yb80 yb81 yb82 yb83 yb84 yb85 yb86 yb87 yb88 yb89 yb90 yb91 yb92 yb93 yb94 yb95 yb96 yb97 yb98 yb99 yb100 yb101 yb102 yb103 yb104 yb105 yb106 yb107 yb108 yb109 yb110 yb111 yb112 yb113 yb114 yb115 yb116 yb117 yb118 yb119 yb120 yb121 yb122 yb123 yb124 yb125 yb126 yb127 yb128 yb129 yb130 yb131 yb132 yb133 yb134 yb135 yb136 yb137 yb138 yb139 yb140 yb141 yb142 yb143 yb144 yb145 yb146 yb147 yb148 yb149 yb150 yb151 yb152 yb153 yb154 yb155 yb156 yb157 yb158 yb159 yb160 yb161 yb162 yb163 yb164 yb165 yb166 yb167 yb168 yb169 yb170 yb171 yb172 yb173 yb174 yb175 yb176 yb177 yb178 k p r a Y s X HWN yb179 yb180 yb181 p2 r3 a2 s2 HL2 w5 Y2 X2 u6 n67 w6 w7 HA2 wc u46 u47 u48 u49 u50 u51 u52 u53 u54 u55 u56 u57 u58 u59 u60 u61 u62 u63 u64 u65 u66 u67 u68 u69 u70 u71 u72 u73 u74 u75 u76 u77 u78 u79 u80 u81 u82 u83 u84 u85 u86 u87 u88 u89 u90 u91 u92 u93 u94 u95 u96 u97 u98 u99 u100 u101 u102 u103 u104 u105 u106 u107 yb182 yb183 yb184 yb185 yb186 yb187 yb188 yb189 yb190 yb191 yb192 yb193 yb194 yb195 yb196 yb197 yb198 yb199 yb200 yb201 yb202 yb203 yb204 yb205 yb206 yb207 yb208 yb209 yb210 yb211 yb212 yb213 yb214 yb215 yb216 yb217 yb218 yb219 yb220 yb221 yb222 yb223 yb224 yb225 yb226 yb227 yb228 yb229 yb230 yb231 yb232 yb233 yb234 yb235 yb236 yb237 yb238 yb239 yb240 yb241 yb242 yb243 yb244 yb245 yb246 yb247 yb248 yb249 yb250 yb251 yb252 yb253 yb254 yb255 yb256 yb257 yb258 yb259 yb260 yb261 yb262 yb263 yb264 yb265 yb266 yb267 yb268 yb269 yb270 yb271 yb272 yb273 yb274 yb275 yb276 yb277 yb278 yb279 yb280 yb281 yb282 yb283 yb284 yb285 yb286 HG2 w9 HFX HPH wr u2 u16 u17 u108 u109 u110 u111 u112 u113 u114 u115 u116 u117 u118 u119 u120 u121 u122 u123 u124 u125 u126 u127 u128 u129 u130 u131 u132 u133 u134 u135 u136 u137 u138 u139 u140 u141 u142 u143 u144 u145 u146 u147 u148 u149 u150 u151 u152 u153 u154 u155 u156 u157 u158 u159 u160 u161 u162 u163 u164 u165 u166 u167 u168 u169 u170 u171 u172 u173 u174 u175 u176 u177 u178 u179 u180 u181 u182 u183 u184 u185 u186 u187 u188 u189 u190 u191 u192 u193 u194 u195 u196 u197 u198 u199 u200 u201 u202 u203 u204 u205 u206 u207 u208 u209 u210 u211 u212 i hi HX HE hili HI ci HCI HRC
 go_upto_region 27 with (fail)
 have HOW:=Lh (show (1<=s2.ph->s2.ph<=7->a2.own ci=9)/\(s2.ph=9->a2.own ci=0) from by
  rw [HPH.out,HCI.out.2.1]
  have hai:=HL2.out.hx.1
  refine ⟨fun h1 h2=>?_,fun h=>?_⟩
  ·have hh:=HFX.out.h h1 h2
   rw [hh] at hai
   rw [<-HCT.out.1]
   exact hai.mine HCK.out HCI.out.2.2
  ·have hh:=HFX.out.z h
   have how:=hai.ow
   rw [hh] at how
   exact how.none (by rw [HCT.out.2.2,<-HCI.out.2.1];exact HCI.out.1.1))
 have HOC:=Lh (fun W (hb:Below wr.heap.size wr W)=>rowner12_any a2 Y2 ci W (HX.out.ar.up hb) (by rw [HA2.out.1];exact HCI.out.1.1))
 have HSK:=Lh (fun W (hb:Below wr.heap.size wr W)=>show K11 u1 a2 Y2 W/\W.cell? ⟨bc,oc+i,none⟩=some (.int .i64 (ci:Int)) from by
  have hr:=HX.out.r1.up hb
  exact ⟨⟨hr.c 0 _ rfl,hr.c 1 _ rfl,hr.c 2 _ rfl,hr.c 3 _ rfl,hr.c 4 _ rfl,hr.c 5 _ rfl,hr.c 6 _ rfl,hr.c 7 _ rfl,hr.c 8 _ rfl,hr.c 9 _ rfl,hr.c 10 _ rfl⟩,HRC.out W (HE.out.up hb)⟩)
 have HB0:=Lh (Below.refl wr.heap.size wr)
 go_cut [16] from 108 to 212 (fun v wx=>v=.bool (a2.own ci==9)/\Hid (Bx15 w u1 u3 a2 Y2 s2 X2 wx)/\Hid (Ex16 w (some g) u1 u3 [⟨1,some ⟨bc,oc,none⟩,cs.length,ics cs⟩] wx))
 case first=>
  go_region_held3 (fun W=>K11 u1 a2 Y2 W/\W.cell? ⟨bc,oc+i,none⟩=some (.int .i64 (ci:Int)))
   ((refine HSK.out _ ?_;repeat' (first | with_reducible exact HB0.out | with_reducible exact HB4.out | with_reducible refine bdr ?_)))
   (first | (go_at_call 14;(with_reducible refine (HOC.out _ ?hbel).mono ?_);(case hbel=>(repeat' (first | with_reducible exact HB0.out | with_reducible refine bdr ?_)));rintro e v4 ⟨rfl,hb⟩;have HB4:=Lh ((bdr HB0.out).trans (hb.mono (by simp)));have HX4:=Lh (HX.out.up HB4.out);have HE4:=Lh (HE.out.up HB4.out);clear hb))
  all_goals
   go_wp2_with fail
   go_meet
   exact ⟨rfl,HX4,HE4⟩
 case rest=>
  obtain ⟨rfl,HX,HE⟩:=hcut
  clear HOC HSK HB0
  generalize wc=wj at*
  obtain ⟨m,hm⟩:∃ m,m=(a2.own ci==9):=⟨_,rfl⟩
  rw [<-hm]
  have HM:=Lh (show (1<=s2.ph->s2.ph<=7->m=true)/\(s2.ph=9->m=false) from by
   rw [hm]
   exact ⟨fun h1 h2=>by rw [HOW.out.1 h1 h2];rfl,fun h=>by rw [HOW.out.2 h];rfl⟩)
  have HP9:=Lh (show 0<=s2.ph/\s2.ph<=9 by rw [HPH.out];exact HFX.out.ph)
  clear hm HOW
  go_upto_region 28 with (fail)
  go_cut [140] from 108 to 212 (fun v wx=>v=.bool false/\Hid (Bx15 w u1 u3 a2 Y2 s2 X2 wx)/\Hid (Ex16 w (some g) u1 u3 [⟨1,some ⟨bc,oc,none⟩,cs.length,ics cs⟩] wx))
  case first=>
   have c0:wj.cell? ⟨u3,0,none⟩=some (.int .i64 s2.ph):=HX.out.r3.c 0 _ rfl
   have yl:=HX.out.r3.lt
   have hcl:s2.ph<1\/(1<=s2.ph/\s2.ph<=7)\/s2.ph=8\/s2.ph=9:=by have:=HP9.out;omega
   rcases hcl with h | ⟨h1,h2⟩ | h | h
   ·have b1:¬1<=s2.ph:=by omega
    have b9:(s2.ph==9)=false:=by simp;omega
    clear h
    go_wp2
    go_meet
    exact ⟨rfl,HX,HE⟩
   ·have hmt:=HM.out.1 h1 h2
    subst hmt
    have b9:(s2.ph==9)=false:=by simp;omega
    go_wp2
    go_meet
    exact ⟨rfl,HX,HE⟩
   ·have b1:1<=s2.ph:=by omega
    have b7:¬s2.ph<=7:=by omega
    have b9:(s2.ph==9)=false:=by simp;omega
    clear h
    go_wp2
    go_meet
    exact ⟨rfl,HX,HE⟩
   ·have hmf:=HM.out.2 h
    subst hmf
    have b1:1<=s2.ph:=by omega
    have b7:¬s2.ph<=7:=by omega
    have b9:(s2.ph==9)=true:=by simp [h]
    clear h
    go_wp2
    go_meet
    exact ⟨rfl,HX,HE⟩
  case rest=>
   obtain ⟨rfl,HX,HE⟩:=hcut
   clear HM
   generalize wc=wk at*
   have hwi:IntKind.i64.wrap ((i:Int)+1)=((i+1:Nat):Int):=by rw [IntWalk.i64_in _ (by have:=HCS.out.2;have:=HI.out;omega)];omega
   have HWI:=Lh hwi
   clear hwi
   go_upto_region 30 with (fail)
   have cc0:=HRC.out wk HE.out
   have c10:wk.cell? ⟨u1,0,none⟩=some (.slice Y2.A N Y2.c):=by have h:=HX.out.r1.c 0 _ rfl;rw [HA2.out.1] at h;exact h
   have yl:=HX.out.r1.lt
   by_cases hk:i<C.K
   ·have hlt:=HCI.out.1.2.1 hk
    have hbN:((ci:Int)==(N:Int))=false:=by simp;omega
    have hciN:(ci:Int)<(N:Int):=by omega
    have HK:=Lh (And.intro hk hlt)
    clear hk hlt
    go_quiet (fail)
    rename_i nq
    have HX:=Lh (HX.out.up (bel_drewN (Below.refl _ _) nq))
    have HE:=Lh (HE.out.up (bel_drewN (Below.refl _ _) nq))
    clear cc0 c10 yl
    generalize wk.drewN nq=wl at*
    go_upto_region 31 with (fail)
    clear hbN
    go_cut [17] from 108 to 212 (fun v wx=>∃ od:Bool,v=.bool od/\Hid ((2<=s2.ph->s2.ph<=6->od=true)/\(8<=s2.ph->od=false))/\Hid (Bx15 w u1 u3 a2 Y2 s2 X2 wx)/\Hid (Ex16 w (some g) u1 u3 [⟨1,some ⟨bc,oc,none⟩,cs.length,ics cs⟩] wx))
    case first=>
     have hq:∃ Q,Q=(tg a2.st ci).sq/\(2<=s2.ph->s2.ph<=6->Q=1)/\(8<=s2.ph->Q % 2=0)/\(Q=0\/Q=1\/Q=2):=by
      have hai:=HL2.out.hx.1
      have hlt:ci<C.N:=by rw [HCT.out.2.2];exact HK.out.2
      refine ⟨_,rfl,fun h1 h2=>?_,fun h1=>?_,?_⟩
      ·have hm:=HFX.out.m (by rw [<-HPH.out];exact h1) (by rw [<-HPH.out];exact h2)
       have hsq:=hai.sq
       rw [hm.1,hm.2] at hsq
       have h3:=Sq15.odd HCK.out.hc HK.out.1 HCK.out.kl (by show C.c i<C.N;rw [<-HCI.out.2.1];exact hlt) hsq
       rw [HCI.out.2.1]
       exact h3
      ·have hm:=HFX.out.m8 (by rw [<-HPH.out];exact h1)
       have hsq:=hai.sq
       rw [hm.1,hm.2] at hsq
       exact Sq15.even hlt hsq
      ·rw [hai.sq ci hlt]
       split <;> split <;> simp
     obtain ⟨Q,hQe,hQ1,hQ2,hQ3⟩:=hq
     have HQ:=Lh (And.intro hQ1 hQ2)
     obtain ⟨b,o,hA3,-,d0,-,-,-⟩:=HX.out.ar.tl.atg (k:=ci) (by rw [HA2.out.2];exact HK.out.2)
     rw [<-hQe] at d0
     have c11:wl.cell? ⟨u1,1,none⟩=some (.slice (some ⟨b,o,none⟩) N Y2.c2):=by have h:=HX.out.r1.c 1 _ rfl;rw [HA2.out.2,hA3] at h;exact h
     have cc0:=HRC.out wl HE.out
     have yl:=HX.out.r1.lt
     have t0:Int.tmod 0 2=0:=rfl
     have t1:Int.tmod 1 2=1:=rfl
     have t2:Int.tmod 2 2=0:=rfl
     clear hQe hQ1 hQ2 hA3
     rcases hQ3 with rfl | rfl | rfl
     ·go_quiet (fail)
      rename_i nq
      have HX:=Lh (HX.out.up (bel_drewN (Below.refl _ _) nq))
      have HE:=Lh (HE.out.up (bel_drewN (Below.refl _ _) nq))
      go_wp2
      go_meet
      exact ⟨false,rfl,Lh ⟨fun h1 h2=>by have h3:=HQ.out.1 h1 h2;simp at h3,fun _=>rfl⟩,HX,HE⟩
     ·go_quiet (fail)
      rename_i nq
      have HX:=Lh (HX.out.up (bel_drewN (Below.refl _ _) nq))
      have HE:=Lh (HE.out.up (bel_drewN (Below.refl _ _) nq))
      go_wp2
      go_meet
      exact ⟨true,rfl,Lh ⟨fun _ _=>rfl,fun h1=>by have h3:=HQ.out.2 h1;simp at h3⟩,HX,HE⟩
     ·go_quiet (fail)
      rename_i nq
      have HX:=Lh (HX.out.up (bel_drewN (Below.refl _ _) nq))
      have HE:=Lh (HE.out.up (bel_drewN (Below.refl _ _) nq))
      go_wp2
      go_meet
      exact ⟨false,rfl,Lh ⟨fun h1 h2=>by have h3:=HQ.out.1 h1 h2;simp at h3,fun _=>rfl⟩,HX,HE⟩
    case rest=>
     obtain ⟨od,rfl,HOD,HX,HE⟩:=hcut
     generalize wc=wm at*
     go_upto_region 32 with (fail)
     go_cut [179] from 108 to 212 (fun v wx=>v=.bool false/\Hid (Bx15 w u1 u3 a2 Y2 s2 X2 wx)/\Hid (Ex16 w (some g) u1 u3 [⟨1,some ⟨bc,oc,none⟩,cs.length,ics cs⟩] wx))
     case first=>
      have c0:wm.cell? ⟨u3,0,none⟩=some (.int .i64 s2.ph):=HX.out.r3.c 0 _ rfl
      have yl:=HX.out.r3.lt
      have hcl:s2.ph<2\/(2<=s2.ph/\s2.ph<=6)\/s2.ph=7\/8<=s2.ph:=by omega
      rcases hcl with h | ⟨h1,h2⟩ | h | h
      ·have b2:¬2<=s2.ph:=by omega
       have b8:¬8<=s2.ph:=by omega
       clear h
       go_wp2
       go_meet
       exact ⟨rfl,HX,HE⟩
      ·have hmt:=HOD.out.1 h1 h2
       subst hmt
       have b8:¬8<=s2.ph:=by omega
       go_wp2
       go_meet
       exact ⟨rfl,HX,HE⟩
      ·have b2:2<=s2.ph:=by omega
       have b6:¬s2.ph<=6:=by omega
       have b8:¬8<=s2.ph:=by omega
       clear h
       go_wp2
       go_meet
       exact ⟨rfl,HX,HE⟩
      ·have hmf:=HOD.out.2 h
       subst hmf
       have b2:2<=s2.ph:=by omega
       have b6:¬s2.ph<=6:=by omega
       go_wp2
       go_meet
       exact ⟨rfl,HX,HE⟩
     case rest=>
      obtain ⟨rfl,HX,HE⟩:=hcut
      clear HOD
      generalize wc=wn at*
      go_upto_region 34 with (fail)
      go_cut [212] from 108 to 212 (fun v wx=>v=.bool false/\Hid (Bx15 w u1 u3 a2 Y2 s2 X2 wx)/\Hid (Ex16 w (some g) u1 u3 [⟨1,some ⟨bc,oc,none⟩,cs.length,ics cs⟩] wx))
      case first=>
       have c0:wn.cell? ⟨u3,0,none⟩=some (.int .i64 s2.ph):=HX.out.r3.c 0 _ rfl
       have yl:=HX.out.r3.lt
       have hcl:s2.ph<3\/(3<=s2.ph/\s2.ph<=5)\/5<s2.ph:=by omega
       rcases hcl with h | ⟨h1,h2⟩ | h
       ·have b3:¬3<=s2.ph:=by omega
        have d3:decide (3<=s2.ph)=false:=decide_eq_false b3
        clear h
        go_quiet (fail)
        rename_i nq
        have HX:=Lh (HX.out.up (bel_drewN (Below.refl _ _) nq))
        have HE:=Lh (HE.out.up (bel_drewN (Below.refl _ _) nq))
        go_wp2
        go_meet
        exact ⟨rfl,HX,HE⟩
       ·have hsi:=HL2.out.hx.2
        have hai:=HL2.out.hx.1
        have hnl:=HFX.out.ld (by rw [<-HPH.out];exact h1) (by rw [<-HPH.out];exact h2)
        have hkl:=HCK.out.kl
        have esl:s2.sh.length=C.K:=by rw [hsi.sl,hnl];omega
        obtain ⟨S,hS⟩:∃ S,S=(og a2.sl ci).sh:=⟨_,rfl⟩
        have es1:sgS s2.sh i=S:=by
         rw [hsi.sh i (by rw [hnl];have:=HK.out.1;omega),hS,hai.sh ci (by rw [HCT.out.2.2];exact HK.out.2),HCI.out.2.1]
        have hqk:i<X2.q.length:=by
         have:X2.q.length=s2.sh.length:=by rw [<-HX.out.se.ok.q];simp
         have:=HK.out.1
         omega
        have eq1:(X2.q[i]).S=S:=(q_at HX.out.se.ok.q hqk).trans es1
        obtain ⟨D,hD⟩:∃ D,D=(X2.q[i]).D:=⟨_,rfl⟩
        obtain ⟨D2,b2,o2,hA3,hb2,hq9,hsr2,-⟩:=HX.out.ar.at2 (k:=ci) (by rw [HA2.out.1];exact HK.out.2)
        obtain ⟨⟨b,o,hA4,hb1,hcell⟩,hsr⟩:=hrows_at HX.out.se.shards hqk HX.out.se.ok.qc
        have hqi:X2.q[i]=⟨S,D⟩:=by rw [hD,<-eq1]
        rw [hqi] at hcell hsr
        rw [<-hS] at hq9 hsr2
        have c8:C8h wn b (o+i*8) S D:=⟨hcell 0 _ rfl,hcell 1 _ rfl,hcell 2 _ rfl,hcell 3 _ rfl,hcell 4 _ rfl,hcell 5 _ rfl,hcell 6 _ rfl,hcell 7 _ rfl⟩
        have c9:C8h wn b2 (o2+ci*9+1) S D2:=⟨hq9.2.1,hq9.2.2.1,hq9.2.2.2.1,hq9.2.2.2.2.1,hq9.2.2.2.2.2.1,hq9.2.2.2.2.2.2.1,hq9.2.2.2.2.2.2.2.1,hq9.2.2.2.2.2.2.2.2⟩
        obtain ⟨K,hK⟩:∃ K,K=C.K:=⟨_,rfl⟩
        have hiK2:i<K:=by rw [hK];exact HK.out.1
        rw [<-hK] at esl
        have HSK:=Lh (fun W (hb:Below wn.heap.size wn W)=>show W.cell? ⟨u3,0,none⟩=some (.int .i64 s2.ph)/\W.cell? ⟨u3,11,none⟩=some (.slice (some ⟨b,o,none⟩) K X2.c)/\W.cell? ⟨u1,0,none⟩=some (.slice (some ⟨b2,o2,none⟩) N Y2.c)/\W.cell? ⟨bc,oc+i,none⟩=some (.int .i64 (ci:Int))/\C8h W b (o+i*8) S D/\C8h W b2 (o2+ci*9+1) S D2 from by
         have hx:=HX.out.up hb
         have k11:=hx.r3.c 11 _ rfl
         rw [esl,hA4] at k11
         have k0:=hx.r1.c 0 _ rfl
         rw [HA2.out.1,hA3] at k0
         exact ⟨hx.r3.c 0 _ rfl,k11,k0,HRC.out W (HE.out.up hb),c8_up16 hb hb1 c8,c8_up16 hb hb2 c9⟩)
        have HSM:=Lh (fun W (hb:Below wn.heap.size wn W)=>rsame7_yes S D D2 W ((hsr.below hb).more hb.size) ((hsr2.below hb).more hb.size))
        have HB0:=Lh (Below.refl wn.heap.size wn)
        have d3:decide (3<=s2.ph)=true:=decide_eq_true h1
        have d5:decide (s2.ph<=5)=true:=decide_eq_true h2
        have hiK:(i:Int)<(K:Int):=by omega
        have hiK3:¬(K:Int)<=(i:Int):=by omega
        have dK:decide ((K:Int)<=(i:Int))=false:=decide_eq_false hiK3
        clear hsi hai hnl hkl esl hS es1 hqk eq1 hD hA3 hb2 hq9 hsr2 hA4 hb1 hcell hsr hqi c8 c9 hK hiK2 c0
        go_region_held3 (fun W=>W.cell? ⟨u3,0,none⟩=some (.int .i64 s2.ph)/\W.cell? ⟨u3,11,none⟩=some (.slice (some ⟨b,o,none⟩) K X2.c)/\W.cell? ⟨u1,0,none⟩=some (.slice (some ⟨b2,o2,none⟩) N Y2.c)/\W.cell? ⟨bc,oc+i,none⟩=some (.int .i64 (ci:Int))/\C8h W b (o+i*8) S D/\C8h W b2 (o2+ci*9+1) S D2)
         ((refine HSK.out _ ?_;repeat' (first | with_reducible exact HB0.out | with_reducible exact HB4.out | with_reducible refine bdr ?_)))
         (first | (go_at_call 15;(with_reducible refine (HSM.out _ ?hbel).mono ?_);(case hbel=>(repeat' (first | with_reducible exact HB0.out | with_reducible refine bdr ?_)));rintro e v4 ⟨rfl,hb⟩;have HB4:=Lh ((bdr HB0.out).trans (hb.mono (by simp)));have HX4:=Lh (HX.out.up HB4.out);have HE4:=Lh (HE.out.up HB4.out);clear hb))
        all_goals
         go_wp2_with fail
         go_meet
         exact ⟨rfl,HX4,HE4⟩
       ·have b3:3<=s2.ph:=by omega
        have b5:¬s2.ph<=5:=by omega
        have d3:decide (3<=s2.ph)=true:=decide_eq_true b3
        have d5:decide (s2.ph<=5)=false:=decide_eq_false b5
        clear h
        go_quiet (fail)
        rename_i nq
        have HX:=Lh (HX.out.up (bel_drewN (Below.refl _ _) nq))
        have HE:=Lh (HE.out.up (bel_drewN (Below.refl _ _) nq))
        go_wp2
        go_meet
        exact ⟨rfl,HX,HE⟩
      case rest=>
       obtain ⟨rfl,HX,HE⟩:=hcut
       generalize wc=wo at*
       have hwi:=HWI.out
       go_wp2
       go_roundw
       case rel=>exact ⟨i+1,rfl,HI.out,HX,HE⟩
       case measure=>have:=HI.out;simp only [intOf];omega
   ·have hlt:=HCI.out.1.2.2 hk
    have hbN:((ci:Int)==(N:Int))=true:=by simp;omega
    clear hk hlt
    go_quiet (fail)
    rename_i nq
    have HX:=Lh (HX.out.up (bel_drewN (Below.refl _ _) nq))
    have HE:=Lh (HE.out.up (bel_drewN (Below.refl _ _) nq))
    clear cc0 c10 yl
    have hwi:=HWI.out
    go_wp2
    go_roundw
    case rel=>exact ⟨i+1,rfl,HI.out,HX,HE⟩
    case measure=>have:=HI.out;simp only [intOf];omega
end Go.Proofs.YtkecnihgjepfeaaGreat
