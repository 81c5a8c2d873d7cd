/- What is proved here: ref07.Counts by a contract; shard.Counts by a contract; shardqueuelaw07.tells says yes of any shard; shardqueuelaw07.serves says yes of any shard; what the law ShardServes keeps in memory: the source and a shard of which one number is changed. -/
import Derived.Test.YtncgbldcjfbknaaGreatJ38
import Derived.Test.YtncgbldcjfbknaaGreatJ39
namespace Go.Proofs.YtncgbldcjfbknaaGreat
open Go.RowKit
set_option linter.unusedVariables false
noncomputable def ctB (S:Sh) (ep lim:Int):Bool:=decide (exS S (wi ep 0 65536&&wi lim 1 8)=0)
noncomputable def ctR (S:Sh) (ep lim:Int):Int:=if ctB S ep lim=true then (((lsF S.cs S.hd S.sz).countP (fun M=>!puF M ep&&!spF M lim):Nat):Int) else 0
noncomputable def ctL (S:Sh) (ep lim:Int):Int:=if ctB S ep lim=true then (((S.l.map Le.m).countP (fun M=>!puF M ep):Nat):Int) else 0
theorem ct_no {S:Sh} {ep lim:Int} (h:ctB S ep lim=false):ctR S ep lim=0∧ctL S ep lim=0:=by unfold ctR ctL;rw [h];exact ⟨rfl,rfl⟩
theorem ct_yes {S:Sh} {ep lim:Int} (h:ctB S ep lim=true):ctR S ep lim=(((lsF S.cs S.hd S.sz).countP (fun M=>!puF M ep&&!spF M lim):Nat):Int)∧ctL S ep lim=(((S.l.map Le.m).countP (fun M=>!puF M ep):Nat):Int):=by unfold ctR ctL;rw [h];exact ⟨rfl,rfl⟩
theorem cnt_succ {p:Msg→Bool} {l:List Msg} {k:Nat} (h:k<l.length):(l.take (k+1)).countP p=(l.take k).countP p+(if p l[k]=true then 1 else 0):=by
 rw [←List.take_append_getElem h,List.countP_append];simp [List.countP_cons]
theorem cnt_le (p:Msg→Bool) (l:List Msg) (k:Nat):(l.take k).countP p≤l.length:=Nat.le_trans (List.countP_le_length ..) (by simp;omega)
structure CtAt (w:World) (p:Nat) (S:Sh) (D:Sx) (v v' : Value) (L L' : List Msg) (W:World):Prop where
 sa:SAt w p S D W
 ls:Ls W W.heap.size v L
 ls' : Ls W W.heap.size v' L'
theorem CtAt.below {w W W' : World} {p:Nat} {S:Sh} {D:Sx} {v v' : Value} {L L' : List Msg} (h:CtAt w p S D v v' L L' W) (hb:Below W.heap.size W W'):CtAt w p S D v v' L L' W':=⟨h.sa.below hb,h.ls.upz hb,h.ls'.upz hb⟩
set_option maxHeartbeats 8000000 in
set_option maxRecDepth 20000 in
theorem rcounts7_any (S:Sh) (D:Sx) (ep lim:Int) (w:World) (hs:SR w w.heap.size S D) :
  Calls Tryz.prog 75 #[sv S D,.int .i64 ep,.int .i64 lim] w fun e w'=>e=.returned (.tuple #[.int .i64 (ctR S ep lim),.int .i64 (ctL S ep lim)])∧Below w.heap.size w w':=by
 have H0:=Lh (SAt.start 33 hs)
 have HV:=Lh (fun p W (k:SAt w p S D W)=>rlive7_any S D W k.sr)
 have HEP:=Lh (fun W=>repochs_any ep W)
 have HLI:=Lh (fun W=>rlimits_any lim W)
 clear hs
 go_enter Tryz.func75,Tryz.ntmps75
 obtain ⟨t0,t1,t2,t3,t4,t5,t6,t7,tl⟩:=H0.out.s8.facts
 go_wp2_with fail
 clear t0 t1 t2 t3 t4 t5 t6 t7 tl
 obtain ⟨p,hp⟩:∃ p,p=w.heap.size:=⟨_,rfl⟩
 rw [←hp]
 rw [←hp] at H0
 clear hp
 generalize w.alloc (.cells #[.bool S.lv,.int .i64 S.lo,.int .i64 S.hi,.slice D.A S.cs.length D.c,.int .i64 S.hd,.int .i64 S.sz,.slice D.A2 S.l.length D.c2,.slice D.A3 S.h.length D.c3] 33)=w1 at*
 refine (HV.out _ _ H0.out).mono ?_
 rintro e w2 ⟨rfl,hb⟩
 have H1:=Lh (H0.out.below hb)
 clear hb
 by_cases h1:exS S true=0
 ·obtain ⟨hv,hlv,-⟩:=exS_zero h1
  rw [h1]
  cases hb1:wi ep 0 65536 with
  | false=>
   have HX:=Lh (ct_no (S:=S) (ep:=ep) (lim:=lim) (by unfold ctB;rw [hb1,exS_num (b:=false&&wi lim 1 8) hv hlv rfl];rfl))
   rw [hb1] at HEP
   clear h1 hv hlv hb1
   go_wp2_with fail
   refine (HEP.out _).mono ?_
   rintro e w3 ⟨rfl,rfl⟩
   go_wp2
   exact bodyPost_ret (v:=.tuple #[.int .i64 0,.int .i64 0]) (by simp only [results,Tryz.results75];go_simp <;> rfl) rfl ⟨by rw [HX.out.1,HX.out.2],H1.out.bel⟩
  | true=>
   cases hb2:wi lim 1 8 with
   | false=>
    have HX:=Lh (ct_no (S:=S) (ep:=ep) (lim:=lim) (by unfold ctB;rw [hb1,hb2,exS_num (b:=true&&false) hv hlv rfl];rfl))
    rw [hb1] at HEP
    rw [hb2] at HLI
    clear h1 hv hlv hb1 hb2
    go_wp2_with fail
    refine (HEP.out _).mono ?_
    rintro e w3 ⟨rfl,rfl⟩
    go_wp2_with fail
    refine (HLI.out _).mono ?_
    rintro e w3 ⟨rfl,rfl⟩
    go_wp2
    exact bodyPost_ret (v:=.tuple #[.int .i64 0,.int .i64 0]) (by simp only [results,Tryz.results75];go_simp <;> rfl) rfl ⟨by rw [HX.out.1,HX.out.2],H1.out.bel⟩
   | true=>
    have HX:=Lh (ct_yes (S:=S) (ep:=ep) (lim:=lim) (by unfold ctB;rw [hb1,hb2,exS_ok (b:=true&&true) hv hlv rfl];rfl))
    rw [hb1] at HEP
    rw [hb2] at HLI
    have hn:=ex_nums h1
    have HRE:=Lh (fun W (q:SAt w p S D W)=>rready_any S D W q.sr)
    have HLE:=Lh (fun W (q:SAt w p S D W)=>rleased_any S D W q.sr (by omega))
    have HN1:=Lh (show (lsF S.cs S.hd S.sz).length≤1000 from Nat.le_trans (lsF_le _ _ _) (by omega))
    have HN2:=Lh (show (S.l.map Le.m).length≤1000 by simp;omega)
    generalize lsF S.cs S.hd S.sz=L at*
    generalize S.l.map Le.m=L' at*
    clear h1 hv hlv hb1 hb2 hn
    go_wp2_with fail
    refine (HEP.out _).mono ?_
    rintro e w3 ⟨rfl,rfl⟩
    go_wp2_with fail
    refine (HLI.out _).mono ?_
    rintro e w3 ⟨rfl,rfl⟩
    go_wp2_with fail
    have HK0:=Lh H1.out.k8
    have HD:=Lh H1.out.drew
    have HK1:=Lh HD.out.k8
    go_region_held3 (fun W=>K8 p S D W)
     (first | with_reducible exact HK1.out | with_reducible exact HK2.out | with_reducible exact HK3.out | with_reducible exact HK0.out)
     (first
     | (go_at_call 68;(with_reducible refine (HRE.out _ HD.out).mono ?_);rintro e w4 ⟨A4,c4,rfl,hl,hb⟩;have H4:=Lh (HD.out.below hb);have HK2:=Lh H4.out.k8;have HL4:=Lh hl;clear hl hb)
     | (go_at_call 69;(with_reducible refine (HLE.out _ H4.out).mono ?_);rintro e w5 ⟨A5,c5,rfl,hl,hb⟩;have HC:=Lh (CtAt.mk (H4.out.below hb) (HL4.out.upz hb) hl);have HK3:=Lh HC.out.sa.k8;clear hl hb))
    clear HK0 HD HK1 HK2 HK3 H4 HL4 H1 H0 HV HEP HLI HRE HLE
    go_wp2_with fail
    have HPU:=Lh (fun M W=>rpurged_any M ep W)
    have HSP:=Lh (fun M W=>rspent_any M lim W)
    have HF1:=Lh (fun M=>show (fun M=>!puF M ep&&!spF M lim) M=(!puF M ep&&!spF M lim) from rfl)
    have HF2:=Lh (fun M=>show (fun M=>!puF M ep) M=(!puF M ep) from rfl)
    generalize (fun M=>!puF M ep&&!spF M lim)=f1 at*
    generalize (fun M=>!puF M ep)=f2 at*
    have hl1:L.length≤9223372036854775807:=by have:=HN1.out;omega
    have hl2:L'.length≤9223372036854775807:=by have:=HN2.out;omega
    have HT1:=Lh (show L.countP f1=(L.take L.length).countP f1 by rw [List.take_length])
    have HT2:=Lh (show L'.countP f2=(L'.take L'.length).countP f2 by rw [List.take_length])
    go_loopw [8,12] (fun n i wr=>∃ k:Nat,k≤L.length∧i=.int .i64 k∧n=.int .i64 (((L.take k).countP f1:Nat):Int)∧Hid (CtAt w p S D (.slice A4 L.length c4) (.slice A5 L'.length c5) L L' wr)) (fun _ i _=>L.length - (intOf i).toNat)
    case atStart=>exact ⟨0,Nat.zero_le _,rfl,rfl,HC⟩
    case round=>
     obtain ⟨k,hk,rfl,rfl,H6⟩:=hrel
     clear HC
     by_cases hlt:k<L.length
     ·have HSU:=Lh (cnt_succ (p:=f1) hlt)
      have hcl:=Nat.le_trans (cnt_le f1 L k) HN1.out
      have HAT:=Lh (fun W (q:CtAt w p S D (.slice A4 L.length c4) (.slice A5 L'.length c5) L L' W)=>q.ls.at_ hlt)
      obtain ⟨b,o,rfl,hbl,x0,x1,x2,x3,x4,x5,x6⟩:=H6.out.ls.at_ hlt
      have HFX:=Lh (HF1.out L[k])
      generalize hmm:(L.take (k+1)).countP f1=m' at*
      have HMM:=Lh hmm
      clear hmm
      generalize (L.take k).countP f1=m at*
      generalize L[k]=X at*
      have hw:IntKind.i64.wrap ((m:Int)+1)=(m:Int)+1:=IntWalk.i64_in _ (by omega)
      have HP:=Lh (HPU.out X)
      have HS:=Lh (HSP.out X)
      cases hp:puF X ep with
      | true=>
       rw [hp] at HP
       have HM:=Lh (show m' = m by rw [HSU.out,HFX.out,hp];simp)
       clear hp
       go_wp2_with fail
       refine (HP.out _).mono ?_
       rintro e w6 ⟨rfl,hb⟩
       have H7:=Lh (H6.out.below hb)
       clear hb x0 x1 x2 x3 x4 x5 x6 hbl
       go_wp2
       go_roundw
       case rel=>exact ⟨k+1,by omega,by go_num,by rw [HMM.out,HM.out],H7⟩
       case measure=>simp [intOf];omega
      | false=>
       rw [hp] at HP
       go_wp2_with fail
       refine (HP.out _).mono ?_
       rintro e w6 ⟨rfl,hb⟩
       have H7:=Lh (H6.out.below hb)
       clear hb x0 x1 x2 x3 x4 x5 x6 hbl
       obtain ⟨b',o',hbo,hbl,x0,x1,x2,x3,x4,x5,x6⟩:=HAT.out _ H7.out
       injection hbo with hbo
       injection hbo with hb1 ho1
       subst hb1;subst ho1
       cases hq:spF X lim with
       | true=>
        rw [hq] at HS
        have HM:=Lh (show m' = m by rw [HSU.out,HFX.out,hp,hq];simp)
        clear hp hq
        go_wp2_with fail
        refine (HS.out _).mono ?_
        rintro e w7 ⟨rfl,hb⟩
        have H8:=Lh (H7.out.below hb)
        clear hb x0 x1 x2 x3 x4 x5 x6 hbl
        go_wp2
        go_roundw
        case rel=>exact ⟨k+1,by omega,by go_num,by rw [HMM.out,HM.out],H8⟩
        case measure=>simp [intOf];omega
       | false=>
        rw [hq] at HS
        have HM:=Lh (show m' = m+1 by rw [HSU.out,HFX.out,hp,hq];simp)
        clear hp hq
        go_wp2_with fail
        refine (HS.out _).mono ?_
        rintro e w7 ⟨rfl,hb⟩
        have H8:=Lh (H7.out.below hb)
        clear hb x0 x1 x2 x3 x4 x5 x6 hbl
        go_wp2
        go_roundw
        case rel=>exact ⟨k+1,by omega,by go_num,by rw [HMM.out,HM.out];go_num,H8⟩
        case measure=>simp [intOf];omega
     ·obtain rfl:k=L.length:=by omega
      rw [←HT1.out]
      generalize L.countP f1=m1 at*
      go_wp2
      go_loopw [9,13] (fun n i wr=>∃ k:Nat,k≤L'.length∧i=.int .i64 k∧n=.int .i64 (((L'.take k).countP f2:Nat):Int)∧Hid (CtAt w p S D (.slice A4 L.length c4) (.slice A5 L'.length c5) L L' wr)) (fun _ i _=>L'.length - (intOf i).toNat)
      case atStart=>exact ⟨0,Nat.zero_le _,rfl,rfl,H6⟩
      case round=>
       obtain ⟨k,hk',rfl,rfl,H6⟩:=hrel
       by_cases hlt' : k<L'.length
       ·have HSU:=Lh (cnt_succ (p:=f2) hlt')
        have hcl:=Nat.le_trans (cnt_le f2 L' k) HN2.out
        obtain ⟨b,o,rfl,hbl,x0,x1,x2,x3,x4,x5,x6⟩:=H6.out.ls'.at_ hlt'
        have HFX:=Lh (HF2.out L'[k])
        generalize hmm:(L'.take (k+1)).countP f2=m' at*
        have HMM:=Lh hmm
        clear hmm
        generalize (L'.take k).countP f2=m at*
        generalize L'[k]=X at*
        have hw:IntKind.i64.wrap ((m:Int)+1)=(m:Int)+1:=IntWalk.i64_in _ (by omega)
        have HP:=Lh (HPU.out X)
        cases hp:puF X ep with
        | true=>
         rw [hp] at HP
         have HM:=Lh (show m' = m by rw [HSU.out,HFX.out,hp];simp)
         clear hp
         go_wp2_with fail
         refine (HP.out _).mono ?_
         rintro e w6 ⟨rfl,hb⟩
         have H7:=Lh (H6.out.below hb)
         clear hb x0 x1 x2 x3 x4 x5 x6 hbl
         go_wp2
         go_roundw
         case rel=>exact ⟨k+1,by omega,by go_num,by rw [HMM.out,HM.out],H7⟩
         case measure=>simp [intOf];omega
        | false=>
         rw [hp] at HP
         have HM:=Lh (show m' = m+1 by rw [HSU.out,HFX.out,hp];simp)
         clear hp
         go_wp2_with fail
         refine (HP.out _).mono ?_
         rintro e w6 ⟨rfl,hb⟩
         have H7:=Lh (H6.out.below hb)
         clear hb x0 x1 x2 x3 x4 x5 x6 hbl
         go_wp2
         go_roundw
         case rel=>exact ⟨k+1,by omega,by go_num,by rw [HMM.out,HM.out];go_num,H7⟩
         case measure=>simp [intOf];omega
       ·obtain rfl:k=L'.length:=by omega
        rw [←HT2.out]
        generalize L'.countP f2=m2 at*
        go_wp2
        exact bodyPost_ret (v:=.tuple #[.int .i64 m1,.int .i64 m2]) (by simp only [results,Tryz.results75];go_simp <;> rfl) rfl ⟨by rw [HX.out.1,HX.out.2],H6.out.sa.bel⟩
 ·have HX:=Lh (ct_no (S:=S) (ep:=ep) (lim:=lim) (by
   unfold ctB
   exact decide_eq_false (fun e=>h1 (by obtain ⟨a,b,-⟩:=exS_zero e;exact exS_ok a b rfl))))
  have hne:(exS S true != 0)=true:=bne_iff_ne.2 h1
  clear h1
  generalize exS S true=x at*
  go_wp2
  exact bodyPost_ret (v:=.tuple #[.int .i64 0,.int .i64 0]) (by simp only [results,Tryz.results75];go_simp <;> rfl) rfl ⟨by rw [HX.out.1,HX.out.2],H1.out.bel⟩
set_option maxHeartbeats 8000000 in
set_option maxRecDepth 20000 in
theorem scounts_any (S:Sh) (D:Sx) (ep lim:Int) (w:World) (hs:SR w w.heap.size S D) :
  Calls Tryz.prog 74 #[sv S D,.int .i64 ep,.int .i64 lim] w fun e w'=>e=.returned (.tuple #[.int .i64 (ctR S ep lim),.int .i64 (ctL S ep lim)])∧Below w.heap.size w w':=by
 have H0:=Lh (SAt.start 33 hs)
 have HV:=Lh (fun A c p W (k:SAt w p S D W) (hn:Nl W W.heap.size (.slice A 2 c) [⟨ep,0,65536⟩,⟨lim,1,8⟩])=>sexam_any S D A 2 c [⟨ep,0,65536⟩,⟨lim,1,8⟩] W k.sr hn)
 have HE:([⟨ep,0,65536⟩,⟨lim,1,8⟩]:List Rn).all Rn.ok=(wi ep 0 65536&&wi lim 1 8):=by simp [Rn.ok]
 rw [HE] at HV
 clear HE hs
 have HP:=Lh (fun W=>aepoch_any ep W)
 have HT:=Lh (fun W=>alimit_any lim W)
 go_enter Tryz.func74,Tryz.ntmps74
 obtain ⟨t0,t1,t2,t3,t4,t5,t6,t7,tl⟩:=H0.out.s8.facts
 go_upto_region 1 with (fail)
 clear t0 t1 t2 t3 t4 t5 t6 t7 tl
 obtain ⟨p,hp⟩:∃ p,p=w.heap.size:=⟨_,rfl⟩
 rw [←hp]
 rw [←hp] at H0
 clear hp
 generalize w.alloc (.cells #[.bool S.lv,.int .i64 S.lo,.int .i64 S.hi,.slice D.A S.cs.length D.c,.int .i64 S.hd,.int .i64 S.sz,.slice D.A2 S.l.length D.c2,.slice D.A3 S.h.length D.c3] 33)=w1 at*
 have HD:=Lh H0.out.drew
 have HT0:=Lh (show K8 p S D w1.drew from HD.out.k8)
 go_region_held3 (fun W=>K8 p S D W)
  (first | with_reducible exact HT0.out | with_reducible exact HT1.out | with_reducible exact HT2.out | with_reducible exact HT3.out | with_reducible exact HT4.out)
  (first
  | (go_at_call 43;(with_reducible refine (HP.out _).mono ?_);rintro e w3 ⟨rfl,hb⟩;have HA1:=Lh (HD.out.below hb);have HT1:=Lh HA1.out.k8;clear hb)
  | (go_at_call 44;(with_reducible refine (HT.out _).mono ?_);rintro e w4 ⟨rfl,hb⟩;have HA2:=Lh (HA1.out.below hb);have HT2:=Lh HA2.out.k8;have HA3:=Lh (HA2.out.alloc (.cells #[.int .i64 ep,.int .i64 0,.int .i64 65536,.int .i64 lim,.int .i64 1,.int .i64 8] 82));have HT3:=Lh HA3.out.k8;have HNL:=Lh (nl_two w4 ⟨ep,0,65536⟩ ⟨lim,1,8⟩ 82);clear hb)
  | (go_at_call 40;(with_reducible refine (HV.out _ _ _ _ HA3.out ?_).mono ?_);(have:=HNL.out;simpa using this);rintro e w5 ⟨rfl,hb⟩;have HA4:=Lh (HA3.out.below hb);have HT4:=Lh HA4.out.k8;clear hb))
 clear H0 HD HT0 HA1 HT1 HA2 HT2 HA3 HT3 HNL HT4 HT HP HV
 by_cases h1:exS S (wi ep 0 65536&&wi lim 1 8)=0
 ·have HX:=Lh (ct_yes (S:=S) (ep:=ep) (lim:=lim) (by unfold ctB;rw [h1];rfl))
  have hn:=ex_nums (show exS S true=0 by obtain ⟨a,b,-⟩:=exS_zero h1;exact exS_ok a b rfl)
  rw [h1]
  have HRE:=Lh (fun W (q:SAt w p S D W)=>glist_any D.A S.cs.length D.c S.cs S.hd S.sz W q.sr.ls)
  have HN1:=Lh (show (lsF S.cs S.hd S.sz).length≤1000 from Nat.le_trans (lsF_le _ _ _) (by omega))
  have HN2:=Lh (show S.l.length≤1000 by omega)
  generalize lsF S.cs S.hd S.sz=L at*
  clear h1 hn
  obtain ⟨t0,t1,t2,t3,t4,t5,t6,t7,tl⟩:=HA4.out.s8.facts
  go_wp2_with fail
  clear t0 t1 t2 t3 t4 t5 t6 t7 tl
  refine (HRE.out _ HA4.out).mono ?_
  rintro e w6 ⟨v4,rfl,-,hl,hb⟩
  obtain ⟨A4,c4,rfl,_,_⟩:=hl.form
  have HC:=Lh (CtAt.mk (HA4.out.below hb) hl Ls.nil)
  clear hl hb HA4
  obtain ⟨t0,t1,t2,t3,t4,t5,t6,t7,tl⟩:=HC.out.sa.s8.facts
  go_wp2
  clear t0 t1 t2 t3 t4 t5 t6 t7 tl HRE
  have HPU:=Lh (fun M W=>purged_any M ep W)
  have HSP:=Lh (fun M W=>spent_any M lim W)
  have HF1:=Lh (fun M=>show (fun M=>!puF M ep&&!spF M lim) M=(!puF M ep&&!spF M lim) from rfl)
  have HF2:=Lh (fun M=>show (fun M=>!puF M ep) M=(!puF M ep) from rfl)
  generalize (fun M=>!puF M ep&&!spF M lim)=f1 at*
  generalize (fun M=>!puF M ep)=f2 at*
  have hl1:L.length≤9223372036854775807:=by have:=HN1.out;omega
  have HT1:=Lh (show L.countP f1=(L.take L.length).countP f1 by rw [List.take_length])
  go_loopw [6,24] (fun n i wr=>∃ k:Nat,k≤L.length∧i=.int .i64 k∧n=.int .i64 (((L.take k).countP f1:Nat):Int)∧Hid (CtAt w p S D (.slice A4 L.length c4) (.slice none 0 0) L [] wr)) (fun _ i _=>L.length - (intOf i).toNat)
  case atStart=>exact ⟨0,Nat.zero_le _,rfl,rfl,HC⟩
  case round=>
   obtain ⟨k,hk,rfl,rfl,H6⟩:=hrel
   clear HC
   by_cases hlt:k<L.length
   ·have HSU:=Lh (cnt_succ (p:=f1) hlt)
    have hcl:=Nat.le_trans (cnt_le f1 L k) HN1.out
    obtain ⟨b,o,rfl,hbl,x0,x1,x2,x3,x4,x5,x6⟩:=H6.out.ls.at_ hlt
    have HFX:=Lh (HF1.out L[k])
    generalize hmm:(L.take (k+1)).countP f1=m' at*
    have HMM:=Lh hmm
    clear hmm
    generalize (L.take k).countP f1=m at*
    generalize L[k]=X at*
    have hw:IntKind.i64.wrap ((m:Int)+1)=(m:Int)+1:=IntWalk.i64_in _ (by omega)
    have HP:=Lh (HPU.out X)
    have HS:=Lh (HSP.out X)
    have HPA:=Lh (H6.out.below ((Below.refl _ _).alloc (Nat.le_refl _) (.cells #[.int .i64 X.id,.int .i64 X.rt,.int .i64 X.ep,.int .i64 X.ct,.int .i64 X.gn,.int .i64 X.st,.string X.bd] 56)))
    have HMX:=Lh (MBx.start wr X 56)
    cases hp:puF X ep with
    | true=>
     rw [hp] at HP
     have HM:=Lh (show m' = m by rw [HSU.out,HFX.out,hp];simp)
     clear hp
     go_wp2_with fail
     refine (HP.out _).mono ?_
     rintro e w6 ⟨rfl,hb⟩
     have H7:=Lh (HPA.out.below hb)
     clear hb x0 x1 x2 x3 x4 x5 x6 hbl
     go_wp2
     go_roundw
     case rel=>exact ⟨k+1,by omega,by go_num,by rw [HMM.out,HM.out],H7⟩
     case measure=>simp [intOf];omega
    | false=>
     rw [hp] at HP
     go_wp2_with fail
     refine (HP.out _).mono ?_
     rintro e w6 ⟨rfl,hb⟩
     have H7:=Lh (HPA.out.below hb)
     have HM7:=Lh (HMX.out.up hb)
     clear hb x0 x1 x2 x3 x4 x5 x6 hbl
     obtain ⟨⟨x0,x1,x2,x3,x4,x5,x6⟩,-,hbl⟩:=HM7.out
     generalize wr.heap.size=q at*
     cases hq:spF X lim with
     | true=>
      rw [hq] at HS
      have HM:=Lh (show m' = m by rw [HSU.out,HFX.out,hp,hq];simp)
      clear hp hq
      go_wp2_with fail
      refine (HS.out _).mono ?_
      rintro e w7 ⟨rfl,hb⟩
      have H8:=Lh (H7.out.below hb)
      clear hb x0 x1 x2 x3 x4 x5 x6 hbl
      go_wp2
      go_roundw
      case rel=>exact ⟨k+1,by omega,by go_num,by rw [HMM.out,HM.out],H8⟩
      case measure=>simp [intOf];omega
     | false=>
      rw [hq] at HS
      have HM:=Lh (show m' = m+1 by rw [HSU.out,HFX.out,hp,hq];simp)
      clear hp hq
      go_wp2_with fail
      refine (HS.out _).mono ?_
      rintro e w7 ⟨rfl,hb⟩
      have H8:=Lh (H7.out.below hb)
      clear hb x0 x1 x2 x3 x4 x5 x6 hbl
      go_wp2
      go_roundw
      case rel=>exact ⟨k+1,by omega,by go_num,by rw [HMM.out,HM.out];go_num,H8⟩
      case measure=>simp [intOf];omega
   ·obtain rfl:k=L.length:=by omega
    rw [←HT1.out]
    generalize L.countP f1=m1 at*
    have HE:=Lh H6.out.sa.sr.el
    obtain ⟨t0,t1,t2,t3,t4,t5,t6,t7,tl⟩:=H6.out.sa.s8.facts
    generalize D.A2=A2 at*
    generalize D.c2=c2 at*
    go_wp2
    clear t0 t1 t2 t3 t4 t5 t6 t7 tl HSP HF1
    have HQ:=Lh (And.intro H6.out.sa HE.out)
    have hl2:S.l.length≤9223372036854775807:=by have:=HN2.out;omega
    have HT2:=Lh (show (S.l.map Le.m).countP f2=((S.l.map Le.m).take S.l.length).countP f2 by rw [show S.l.length=(S.l.map Le.m).length by simp,List.take_length])
    go_loopw [7,45] (fun n i wr=>∃ k:Nat,k≤S.l.length∧i=.int .i64 k∧n=.int .i64 ((((S.l.map Le.m).take k).countP f2:Nat):Int)∧Hid (SAt w p S D wr∧El wr wr.heap.size (.slice A2 S.l.length c2) S.l)) (fun _ i _=>S.l.length - (intOf i).toNat)
    case atStart=>exact ⟨0,Nat.zero_le _,rfl,rfl,HQ⟩
    case round=>
     clear H6 HE HQ
     obtain ⟨k,hk',rfl,rfl,H6⟩:=hrel
     by_cases hlt' : k<S.l.length
     ·have hlm:k<(S.l.map Le.m).length:=by simpa using hlt'
      have HSU:=Lh (cnt_succ (p:=f2) hlm)
      have hcl:((S.l.map Le.m).take k).countP f2≤1000:=Nat.le_trans (cnt_le f2 _ k) (by simpa using HN2.out)
      obtain ⟨b,o,rfl,hbl,x0,x1,x2,x3,x4,x5,x6,x7⟩:=H6.out.2.at_ hlt'
      have HFX:=Lh (HF2.out S.l[k].m)
      have HGM:=Lh (show (S.l.map Le.m)[k]'hlm=S.l[k].m by simp)
      generalize hmm:((S.l.map Le.m).take (k+1)).countP f2=m' at*
      have HMM:=Lh hmm
      clear hmm
      generalize ((S.l.map Le.m).take k).countP f2=m at*
      generalize (S.l.map Le.m)[k]'hlm=Y at*
      generalize S.l[k]=X at*
      have hw:IntKind.i64.wrap ((m:Int)+1)=(m:Int)+1:=IntWalk.i64_in _ (by omega)
      have HP:=Lh (HPU.out X.m)
      have HBA:=Lh ((Below.refl wr.heap.size wr).alloc (Nat.le_refl _) (.cells #[.int .i64 X.m.id,.int .i64 X.m.rt,.int .i64 X.m.ep,.int .i64 X.m.ct,.int .i64 X.m.gn,.int .i64 X.m.st,.string X.m.bd,.int .i64 X.dl] 58))
      cases hp:puF X.m ep with
      | true=>
       rw [hp] at HP
       have HM:=Lh (show m' = m by rw [HSU.out,HGM.out,HFX.out,hp];simp)
       clear hp
       go_wp2_with fail
       refine (HP.out _).mono ?_
       rintro e w6 ⟨rfl,hb⟩
       have HBB:=HBA.out.trans (hb.mono HBA.out.size)
       have H7:=Lh (And.intro (H6.out.1.below HBB) ((H6.out.2.below HBB).more HBB.size))
       clear hb x0 x1 x2 x3 x4 x5 x6 x7 hbl HBB
       go_wp2
       go_roundw
       case rel=>exact ⟨k+1,by omega,by go_num,by rw [HMM.out,HM.out],H7⟩
       case measure=>simp [intOf];omega
      | false=>
       rw [hp] at HP
       have HM:=Lh (show m' = m+1 by rw [HSU.out,HGM.out,HFX.out,hp];simp)
       clear hp
       go_wp2_with fail
       refine (HP.out _).mono ?_
       rintro e w6 ⟨rfl,hb⟩
       have HBB:=HBA.out.trans (hb.mono HBA.out.size)
       have H7:=Lh (And.intro (H6.out.1.below HBB) ((H6.out.2.below HBB).more HBB.size))
       clear hb x0 x1 x2 x3 x4 x5 x6 x7 hbl HBB
       go_wp2
       go_roundw
       case rel=>exact ⟨k+1,by omega,by go_num,by rw [HMM.out,HM.out];go_num,H7⟩
       case measure=>simp [intOf];omega
     ·obtain rfl:k=S.l.length:=by omega
      rw [←HT2.out]
      generalize (S.l.map Le.m).countP f2=m2 at*
      go_wp2
      exact bodyPost_ret (v:=.tuple #[.int .i64 m1,.int .i64 m2]) (by simp only [results,Tryz.results74];go_simp <;> rfl) rfl ⟨by rw [HX.out.1,HX.out.2],H6.out.1.bel⟩
 ·have HX:=Lh (ct_no (S:=S) (ep:=ep) (lim:=lim) (by unfold ctB;exact decide_eq_false h1))
  have hne:(exS S (wi ep 0 65536&&wi lim 1 8) != 0)=true:=bne_iff_ne.2 h1
  clear h1
  generalize exS S (wi ep 0 65536&&wi lim 1 8)=x at*
  go_wp2
  exact bodyPost_ret (v:=.tuple #[.int .i64 0,.int .i64 0]) (by simp only [results,Tryz.results74];go_simp <;> rfl) rfl ⟨by rw [HX.out.1,HX.out.2],HA4.out.bel⟩
structure Tl7 (w:World) (p q t:Nat) (S:Sh) (D:Sx) (H:Hn) (N:Nm) (W:World):Prop where
 sa:SAt w p S D W
 hn:H4 W q H
 nb:Nb W t N
theorem Tl7.below {w W W' : World} {p q t:Nat} {S:Sh} {D:Sx} {H:Hn} {N:Nm} (h:Tl7 w p q t S D H N W) (hb:Below W.heap.size W W'):Tl7 w p q t S D H N W':=⟨h.sa.below hb,h.hn.up hb,h.nb.up hb⟩
theorem Tl7.start (w:World) (S:Sh) (D:Sx) (H:Hn) (N:Nm) (hs:SR w w.heap.size S D):Tl7 w w.heap.size (w.heap.size+1) (w.heap.size+1+1) S D H N (((w.alloc (.cells #[.bool S.lv,.int .i64 S.lo,.int .i64 S.hi,.slice D.A S.cs.length D.c,.int .i64 S.hd,.int .i64 S.sz,.slice D.A2 S.l.length D.c2,.slice D.A3 S.h.length D.c3] 33)).alloc (.cells #[.int .i64 H.id,.int .i64 H.gn,.int .i64 H.rt,.int .i64 H.ht] 40)).alloc (.cells #[.int .i64 N.mx,.int .i64 N.now,.int .i64 N.vis,.int .i64 N.ep,.int .i64 N.lim,.int .i64 N.k,.int .i64 N.mid,.int .i64 N.rt] 37)):=by
 have e1:(w.alloc (.cells #[.bool S.lv,.int .i64 S.lo,.int .i64 S.hi,.slice D.A S.cs.length D.c,.int .i64 S.hd,.int .i64 S.sz,.slice D.A2 S.l.length D.c2,.slice D.A3 S.h.length D.c3] 33)).heap.size=w.heap.size+1:=by simp
 have e2:((w.alloc (.cells #[.bool S.lv,.int .i64 S.lo,.int .i64 S.hi,.slice D.A S.cs.length D.c,.int .i64 S.hd,.int .i64 S.sz,.slice D.A2 S.l.length D.c2,.slice D.A3 S.h.length D.c3] 33)).alloc (.cells #[.int .i64 H.id,.int .i64 H.gn,.int .i64 H.rt,.int .i64 H.ht] 40)).heap.size=w.heap.size+1+1:=by simp
 have h1:=(H4.start (w.alloc (.cells #[.bool S.lv,.int .i64 S.lo,.int .i64 S.hi,.slice D.A S.cs.length D.c,.int .i64 S.hd,.int .i64 S.sz,.slice D.A2 S.l.length D.c2,.slice D.A3 S.h.length D.c3] 33)) H 40).up ((Below.refl _ _).alloc (Nat.le_refl _) (.cells #[.int .i64 N.mx,.int .i64 N.now,.int .i64 N.vis,.int .i64 N.ep,.int .i64 N.lim,.int .i64 N.k,.int .i64 N.mid,.int .i64 N.rt] 37))
 have h2:=Nb.start ((w.alloc (.cells #[.bool S.lv,.int .i64 S.lo,.int .i64 S.hi,.slice D.A S.cs.length D.c,.int .i64 S.hd,.int .i64 S.sz,.slice D.A2 S.l.length D.c2,.slice D.A3 S.h.length D.c3] 33)).alloc (.cells #[.int .i64 H.id,.int .i64 H.gn,.int .i64 H.rt,.int .i64 H.ht] 40)) N 37
 rw [e1] at h1
 rw [e2] at h2
 exact ⟨((SAt.start 33 hs).alloc _).alloc _,h1,h2⟩
abbrev TlK (p q t:Nat) (S:Sh) (D:Sx) (H:Hn) (N:Nm) (W:World):Prop:=K8 p S D W∧W.cell? ⟨q,0,none⟩=some (.int .i64 H.id)∧W.cell? ⟨q,1,none⟩=some (.int .i64 H.gn)∧W.cell? ⟨q,2,none⟩=some (.int .i64 H.rt)∧W.cell? ⟨q,3,none⟩=some (.int .i64 H.ht)∧W.cell? ⟨t,1,none⟩=some (.int .i64 N.now)∧W.cell? ⟨t,3,none⟩=some (.int .i64 N.ep)∧W.cell? ⟨t,7,none⟩=some (.int .i64 N.rt)
theorem Tl7.k {w W:World} {p q t:Nat} {S:Sh} {D:Sx} {H:Hn} {N:Nm} (h:Tl7 w p q t S D H N W):TlK p q t S D H N W:=⟨h.sa.k8,h.hn.1,h.hn.2.1,h.hn.2.2.1,h.hn.2.2.2.1,h.nb.c1,h.nb.c3,h.nb.c7⟩
set_option maxHeartbeats 8000000 in
set_option maxRecDepth 20000 in
theorem tells7_any (S:Sh) (D:Sx) (H:Hn) (N:Nm) (w:World) (hs:SR w w.heap.size S D) :
  Calls Tryz.prog 33 #[sv S D,H.v,N.v] w fun e w'=>e=.returned (.bool true)∧Below w.heap.size w w':=by
 have HP:=Lh (Tl7.start w S D H N hs)
 have HC1:=Lh (fun p q t W (k:Tl7 w p q t S D H N W)=>scounts_any S D N.ep N.lim W k.sa.sr)
 have HC2:=Lh (fun p q t W (k:Tl7 w p q t S D H N W)=>rcounts7_any S D N.ep N.lim W k.sa.sr)
 have HV1:=Lh (fun p q t W (k:Tl7 w p q t S D H N W)=>svalid_any S D W k.sa.sr)
 have HV2:=Lh (fun p q t W (k:Tl7 w p q t S D H N W)=>rvalid7_any S D W k.sa.sr)
 have HS1:=Lh (fun p q t W (k:Tl7 w p q t S D H N W)=>sstored_any S D W k.sa.sr)
 have HS2:=Lh (fun p q t W (k:Tl7 w p q t S D H N W)=>rstored7_any S D W k.sa.sr)
 have HO1:=Lh (fun p q t W (k:Tl7 w p q t S D H N W)=>sowns_any S D N.rt W k.sa.sr)
 have HO2:=Lh (fun p q t W (k:Tl7 w p q t S D H N W)=>rowns7_any S D N.rt W k.sa.sr)
 have HH1:=Lh (fun p q t W (k:Tl7 w p q t S D H N W)=>sholds_any S D H N.now N.ep W k.sa.sr)
 have HH2:=Lh (fun p q t W (k:Tl7 w p q t S D H N W)=>rholds7_any S D H N.now N.ep W k.sa.sr)
 generalize ctR S N.ep N.lim=a at*
 generalize ctL S N.ep N.lim=b at*
 generalize shV S=c at*
 generalize stF S=d at*
 generalize owF S N.rt=o at*
 generalize hoF S H N.now N.ep=h at*
 clear hs
 go_enter Tryz.func33,Tryz.ntmps33
 go_wp2_with fail
 generalize (((w.alloc (.cells #[.bool S.lv,.int .i64 S.lo,.int .i64 S.hi,.slice D.A S.cs.length D.c,.int .i64 S.hd,.int .i64 S.sz,.slice D.A2 S.l.length D.c2,.slice D.A3 S.h.length D.c3] 33)).alloc (.cells #[.int .i64 H.id,.int .i64 H.gn,.int .i64 H.rt,.int .i64 H.ht] 40)).alloc (.cells #[.int .i64 N.mx,.int .i64 N.now,.int .i64 N.vis,.int .i64 N.ep,.int .i64 N.lim,.int .i64 N.k,.int .i64 N.mid,.int .i64 N.rt] 37))=w1 at*
 generalize w.heap.size+1+1=t at*
 generalize w.heap.size+1=q at*
 obtain ⟨p,hp⟩:∃ p,p=w.heap.size:=⟨_,rfl⟩
 rw [←hp]
 have HP1:=HP.out
 rw [←hp] at HP1
 clear HP hp
 have HP:=Lh HP1
 clear HP1
 refine (HC1.out _ _ _ _ HP.out).mono ?_
 rintro e w5 ⟨rfl,hb⟩
 have HP:=Lh (HP.out.below hb)
 clear hb
 obtain ⟨t0,t1,t2,t3,t4,t5,t6,t7,tl⟩:=HP.out.sa.s8.facts
 obtain ⟨q0,q1,q2,q3,ql⟩:=HP.out.hn
 obtain ⟨⟨n0,n1,n2,n3,n4,n5,n6,n7,nl⟩,-⟩:=HP.out.nb.all
 go_wp2_with fail
 clear t0 t1 t2 t3 t4 t5 t6 t7 tl q0 q1 q2 q3 ql n0 n1 n2 n3 n4 n5 n6 n7 nl
 refine (HC2.out _ _ _ _ HP.out).mono ?_
 rintro e w5 ⟨rfl,hb⟩
 have HP:=Lh (HP.out.below hb)
 clear hb
 obtain ⟨t0,t1,t2,t3,t4,t5,t6,t7,tl⟩:=HP.out.sa.s8.facts
 obtain ⟨q0,q1,q2,q3,ql⟩:=HP.out.hn
 obtain ⟨⟨n0,n1,n2,n3,n4,n5,n6,n7,nl⟩,-⟩:=HP.out.nb.all
 go_wp2_with fail
 clear t0 t1 t2 t3 t4 t5 t6 t7 tl q0 q1 q2 q3 ql n0 n1 n2 n3 n4 n5 n6 n7 nl
 have hc:(c==c)=true:=by simp
 have hd:(d==d)=true:=by simp
 have ho:(o==o)=true:=by simp
 have ha:(a==a)=true:=by simp
 have hb' : (b==b)=true:=by simp
 have hh' : (h==h)=true:=by simp
 have HK0:=Lh HP.out.k
 have HP0:=Lh (HP.out.below (Below.refl _ _).drew)
 clear HP
 have HP:=HP0
 clear HP0
 have HK:=Lh HP.out.k
 go_region_held3 (fun W=>TlK p q t S D H N W)
  (first | with_reducible exact HK.out | with_reducible exact HK0.out)
  (first
   | (go_at_call 74;(with_reducible refine (HC1.out _ _ _ _ HP.out).mono ?_);rintro e w5 ⟨rfl,hb⟩;have HP:=Lh (HP.out.below hb);have HK:=Lh HP.out.k;clear hb)
   | (go_at_call 75;(with_reducible refine (HC2.out _ _ _ _ HP.out).mono ?_);rintro e w5 ⟨rfl,hb⟩;have HP:=Lh (HP.out.below hb);have HK:=Lh HP.out.k;clear hb)
   | (go_at_call 76;(with_reducible refine (HV1.out _ _ _ _ HP.out).mono ?_);rintro e w5 ⟨rfl,hb⟩;have HP:=Lh (HP.out.below hb);have HK:=Lh HP.out.k;clear hb)
   | (go_at_call 20;(with_reducible refine (HV2.out _ _ _ _ HP.out).mono ?_);rintro e w5 ⟨rfl,hb⟩;have HP:=Lh (HP.out.below hb);have HK:=Lh HP.out.k;clear hb)
   | (go_at_call 24;(with_reducible refine (HS1.out _ _ _ _ HP.out).mono ?_);rintro e w5 ⟨rfl,hb⟩;have HP:=Lh (HP.out.below hb);have HK:=Lh HP.out.k;clear hb)
   | (go_at_call 77;(with_reducible refine (HS2.out _ _ _ _ HP.out).mono ?_);rintro e w5 ⟨rfl,hb⟩;have HP:=Lh (HP.out.below hb);have HK:=Lh HP.out.k;clear hb)
   | (go_at_call 78;(with_reducible refine (HO1.out _ _ _ _ HP.out).mono ?_);rintro e w5 ⟨rfl,hb⟩;have HP:=Lh (HP.out.below hb);have HK:=Lh HP.out.k;clear hb)
   | (go_at_call 79;(with_reducible refine (HO2.out _ _ _ _ HP.out).mono ?_);rintro e w5 ⟨rfl,hb⟩;have HP:=Lh (HP.out.below hb);have HK:=Lh HP.out.k;clear hb)
   | (go_at_call 23;(with_reducible refine (HH1.out _ _ _ _ HP.out).mono ?_);rintro e w5 ⟨rfl,hb⟩;have HP:=Lh (HP.out.below hb);have HK:=Lh HP.out.k;clear hb)
   | (go_at_call 80;(with_reducible refine (HH2.out _ _ _ _ HP.out).mono ?_);rintro e w5 ⟨rfl,hb⟩;have HP:=Lh (HP.out.below hb);have HK:=Lh HP.out.k;clear hb))
 go_wp2
 go_ret
 exact ⟨rfl,HP.out.sa.bel⟩
theorem takes_both (S:Sh) (mx now vis ep lim:Int):∃ (R:Sh) (l:List Le) (x:Int),(∀ D w,SR w w.heap.size S D→Calls Tryz.prog 15 #[sv S D,.int .i64 mx,.int .i64 now,.int .i64 vis,.int .i64 ep,.int .i64 lim] w (SLe w R l x))∧(∀ D w,SR w w.heap.size S D→Calls Tryz.prog 83 #[sv S D,.int .i64 mx,.int .i64 now,.int .i64 vis,.int .i64 ep,.int .i64 lim] w (SLe8 w S D R l x)):=by
 by_cases h:tkE S mx now vis ep lim=0
 ·have h0:exS S (tkB mx now vis ep lim)=0:=by
   apply Classical.byContradiction
   intro h1
   unfold tkE at h
   rw [if_pos h1] at h
   exact h1 h
  have hd:¬1073741824<now+vis:=fun hd=>by
   unfold tkE at h
   rw [if_neg (not_not_intro h0),if_pos hd] at h
   exact absurd h (by decide)
  obtain ⟨hB,V,k,rfl⟩:=vs_ex h0
  have hm:1≤mx∧mx≤6:=by
   have hB':=hB
   unfold tkB at hB'
   simp only [Bool.and_eq_true] at hB'
   exact wi_of hB'.2.2.2.2
  obtain ⟨m,rfl⟩:=Int.eq_ofNat_of_zero_le (show 0≤mx by omega)
  exact ⟨_,_,_,fun D w hs=>stake_ok V k D m now vis ep lim w hs hB (by omega),fun D w hs=>rtake7_ok V k D m now vis ep lim w hs hB (by omega)⟩
 ·exact ⟨_,_,_,fun D w hs=>stake_bad S D mx now vis ep lim w hs h,fun D w hs=>rtake7_bad S D mx now vis ep lim w hs h⟩
structure Sv7 (w:World) (p m q t:Nat) (S:Sh) (D:Sx) (M:Msg) (H:Hn) (N:Nm) (W:World):Prop where
 sa:SAt w p S D W
 mb:MBx W m M
 hn:H4 W q H
 nb:Nb W t N
 ne:p<m∧m<q∧q<t
theorem Sv7.below {w W W' : World} {p m q t:Nat} {S:Sh} {D:Sx} {M:Msg} {H:Hn} {N:Nm} (h:Sv7 w p m q t S D M H N W) (hb:Below W.heap.size W W'):Sv7 w p m q t S D M H N W':=⟨h.sa.below hb,h.mb.up hb,h.hn.up hb,h.nb.up hb,h.ne⟩
theorem Sv7.put_far {w W:World} {p m q t a:Nat} {S T:Sh} {D E:Sx} {M:Msg} {H:Hn} {N:Nm} (h:Sv7 w p m q t S D M H N W) (ha:t<a) (ho:SOff S D a):Sv7 w p m q t S D M H N (set8s W a T E):=by
 have hn:=h.ne
 have hold:=h.sa.old
 refine ⟨⟨h.sa.s8.put_far (by omega) T E,SR.sets ho (T.l8 E) 0 W h.sa.sr,h.sa.off,set8s_below (by omega) h.sa.bel T E,h.sa.old⟩,h.mb.put_far (by omega) T E,?_,h.nb.keep (by rw [set8s_size];exact Nat.le_refl _) (fun o=>set8s_far (q:=⟨t,o,none⟩) (show t≠a by omega)) (fun o=>by rw [set8s_eq,World.frozen?_setCells]),h.ne⟩
 obtain ⟨h0,h1,h2,h3,hl⟩:=h.hn
 exact ⟨(set8s_far (q:=⟨q,0,none⟩) (show q≠a by omega)).trans h0,(set8s_far (q:=⟨q,1,none⟩) (show q≠a by omega)).trans h1,(set8s_far (q:=⟨q,2,none⟩) (show q≠a by omega)).trans h2,(set8s_far (q:=⟨q,3,none⟩) (show q≠a by omega)).trans h3,by rw [set8s_size];exact hl⟩
theorem Sv7.start (w:World) (S:Sh) (D:Sx) (M:Msg) (H:Hn) (N:Nm) (hs:SR w w.heap.size S D):Sv7 w w.heap.size (w.heap.size+1) (w.heap.size+1+1) (w.heap.size+1+1+1) S D M H N ((((w.alloc (.cells #[.bool S.lv,.int .i64 S.lo,.int .i64 S.hi,.slice D.A S.cs.length D.c,.int .i64 S.hd,.int .i64 S.sz,.slice D.A2 S.l.length D.c2,.slice D.A3 S.h.length D.c3] 33)).alloc (.cells #[.int .i64 M.id,.int .i64 M.rt,.int .i64 M.ep,.int .i64 M.ct,.int .i64 M.gn,.int .i64 M.st,.string M.bd] 56)).alloc (.cells #[.int .i64 H.id,.int .i64 H.gn,.int .i64 H.rt,.int .i64 H.ht] 40)).alloc (.cells #[.int .i64 N.mx,.int .i64 N.now,.int .i64 N.vis,.int .i64 N.ep,.int .i64 N.lim,.int .i64 N.k,.int .i64 N.mid,.int .i64 N.rt] 37)):=by
 have e1:(w.alloc (.cells #[.bool S.lv,.int .i64 S.lo,.int .i64 S.hi,.slice D.A S.cs.length D.c,.int .i64 S.hd,.int .i64 S.sz,.slice D.A2 S.l.length D.c2,.slice D.A3 S.h.length D.c3] 33)).heap.size=w.heap.size+1:=by simp
 have e2:((w.alloc (.cells #[.bool S.lv,.int .i64 S.lo,.int .i64 S.hi,.slice D.A S.cs.length D.c,.int .i64 S.hd,.int .i64 S.sz,.slice D.A2 S.l.length D.c2,.slice D.A3 S.h.length D.c3] 33)).alloc (.cells #[.int .i64 M.id,.int .i64 M.rt,.int .i64 M.ep,.int .i64 M.ct,.int .i64 M.gn,.int .i64 M.st,.string M.bd] 56)).heap.size=w.heap.size+1+1:=by simp
 have e3:(((w.alloc (.cells #[.bool S.lv,.int .i64 S.lo,.int .i64 S.hi,.slice D.A S.cs.length D.c,.int .i64 S.hd,.int .i64 S.sz,.slice D.A2 S.l.length D.c2,.slice D.A3 S.h.length D.c3] 33)).alloc (.cells #[.int .i64 M.id,.int .i64 M.rt,.int .i64 M.ep,.int .i64 M.ct,.int .i64 M.gn,.int .i64 M.st,.string M.bd] 56)).alloc (.cells #[.int .i64 H.id,.int .i64 H.gn,.int .i64 H.rt,.int .i64 H.ht] 40)).heap.size=w.heap.size+1+1+1:=by simp
 have h0:=((MBx.start (w.alloc (.cells #[.bool S.lv,.int .i64 S.lo,.int .i64 S.hi,.slice D.A S.cs.length D.c,.int .i64 S.hd,.int .i64 S.sz,.slice D.A2 S.l.length D.c2,.slice D.A3 S.h.length D.c3] 33)) M 56).up ((Below.refl _ _).alloc (Nat.le_refl _) (.cells #[.int .i64 H.id,.int .i64 H.gn,.int .i64 H.rt,.int .i64 H.ht] 40))).up ((Below.refl _ _).alloc (Nat.le_refl _) (.cells #[.int .i64 N.mx,.int .i64 N.now,.int .i64 N.vis,.int .i64 N.ep,.int .i64 N.lim,.int .i64 N.k,.int .i64 N.mid,.int .i64 N.rt] 37))
 have h1:=(H4.start ((w.alloc (.cells #[.bool S.lv,.int .i64 S.lo,.int .i64 S.hi,.slice D.A S.cs.length D.c,.int .i64 S.hd,.int .i64 S.sz,.slice D.A2 S.l.length D.c2,.slice D.A3 S.h.length D.c3] 33)).alloc (.cells #[.int .i64 M.id,.int .i64 M.rt,.int .i64 M.ep,.int .i64 M.ct,.int .i64 M.gn,.int .i64 M.st,.string M.bd] 56)) H 40).up ((Below.refl _ _).alloc (Nat.le_refl _) (.cells #[.int .i64 N.mx,.int .i64 N.now,.int .i64 N.vis,.int .i64 N.ep,.int .i64 N.lim,.int .i64 N.k,.int .i64 N.mid,.int .i64 N.rt] 37))
 have h2:=Nb.start (((w.alloc (.cells #[.bool S.lv,.int .i64 S.lo,.int .i64 S.hi,.slice D.A S.cs.length D.c,.int .i64 S.hd,.int .i64 S.sz,.slice D.A2 S.l.length D.c2,.slice D.A3 S.h.length D.c3] 33)).alloc (.cells #[.int .i64 M.id,.int .i64 M.rt,.int .i64 M.ep,.int .i64 M.ct,.int .i64 M.gn,.int .i64 M.st,.string M.bd] 56)).alloc (.cells #[.int .i64 H.id,.int .i64 H.gn,.int .i64 H.rt,.int .i64 H.ht] 40)) N 37
 rw [e1] at h0
 rw [e2] at h1
 rw [e3] at h2
 exact ⟨(((SAt.start 33 hs).alloc _).alloc _).alloc _,h0,h1,h2,by omega⟩
structure Sv8 (w:World) (p m q t a b:Nat) (S:Sh) (D:Sx) (M:Msg) (H:Hn) (N:Nm) (T:Sh) (E:Sx) (U:Sh) (G:Sx) (W:World):Prop where
 s:Sv7 w p m q t S D M H N W
 aa:SB8 W a T E
 bb:SB8 W b U G
 ne:w.heap.size≤t∧t<a∧a<b
 oa:SOff S D a
 ob:SOff S D b
section
variable {w W W' : World} {p m q t a b:Nat} {S T U T' U' : Sh} {D E G E' G' : Sx} {M:Msg} {H:Hn} {N:Nm}
theorem Sv8.below (h:Sv8 w p m q t a b S D M H N T E U G W) (hb:Below W.heap.size W W'):Sv8 w p m q t a b S D M H N T E U G W':=⟨h.s.below hb,h.aa.up hb,h.bb.up hb,h.ne,h.oa,h.ob⟩
theorem Sv8.setA (h:Sv8 w p m q t a b S D M H N T E U G W) (T' : Sh) (E' : Sx):Sv8 w p m q t a b S D M H N T' E' U G (set8s W a T' E'):=by
 have hn:=h.ne
 exact ⟨h.s.put_far hn.2.1 h.oa,h.aa.put T' E',h.bb.put_far (by omega) T' E',h.ne,h.oa,h.ob⟩
theorem Sv8.setB (h:Sv8 w p m q t a b S D M H N T E U G W) (U' : Sh) (G' : Sx):Sv8 w p m q t a b S D M H N T E U' G' (set8s W b U' G'):=by
 have hn:=h.ne
 exact ⟨h.s.put_far (by omega) h.ob,h.aa.put_far (by omega) U' G',h.bb.put U' G',h.ne,h.oa,h.ob⟩
theorem El.set8s {B n c:Nat} {A:Option Addr} {l:List Le} (h:El W B (.slice A n c) l) (ho:OffB a n A) (T:Sh) (E:Sx):El (Go.Proofs.YtncgbldcjfbknaaGreat.set8s W a T E) B (.slice A n c) l:=
 (((((((h.offp (p:=⟨a,0,none⟩) ho _).offp (p:=⟨a,1,none⟩) ho _).offp (p:=⟨a,2,none⟩) ho _).offp (p:=⟨a,3,none⟩) ho _).offp (p:=⟨a,4,none⟩) ho _).offp (p:=⟨a,5,none⟩) ho _).offp (p:=⟨a,6,none⟩) ho _).offp (p:=⟨a,7,none⟩) ho _
theorem sz4_ex (h:exS S true=0):S.sz4:=by
 have:=ex_nums h
 exact ⟨this.1,by omega,by omega,by omega⟩
end
set_option maxHeartbeats 16000000 in
set_option maxRecDepth 20000 in
theorem serves7_any (S:Sh) (D:Sx) (M:Msg) (H:Hn) (N:Nm) (w:World) (hs:SR w w.heap.size S D) :
  Calls Tryz.prog 34 #[sv S D,M.v,H.v,N.v] w fun e w'=>e=.returned (.bool true)∧Below w.heap.size w w':=by
 have HP:=Lh (Sv7.start w S D M H N hs)
 have HO:=Lh (fun r (h:w.heap.size≤r)=>hs.offs h)
 have HC1:=Lh (fun p m q t W (k:Sv7 w p m q t S D M H N W)=>sput_any S D M W k.sa.sr)
 have HC2:=Lh (fun p m q t W (k:Sv7 w p m q t S D M H N W)=>rput7_any S D M W k.sa.sr)
 obtain ⟨R2,L2,x2,HT1,HT2⟩:=takes_both S N.mx N.now N.vis N.ep N.lim
 have HT1:=Lh (fun p m q t W (k:Sv7 w p m q t S D M H N W)=>HT1 D W k.sa.sr)
 have HT2:=Lh (fun p m q t W (k:Sv7 w p m q t S D M H N W)=>HT2 D W k.sa.sr)
 have HA1:=Lh (fun p m q t W (k:Sv7 w p m q t S D M H N W)=>sack_any S D H N.now N.ep W k.sa.sr (fun h=>sz4_ex (he_nums h).2.2.2))
 have HA2:=Lh (fun p m q t W (k:Sv7 w p m q t S D M H N W)=>rack7_any S D H N.now N.ep W k.sa.sr)
 have HN1:=Lh (fun p m q t W (k:Sv7 w p m q t S D M H N W)=>snack_any S D H N.now N.ep N.lim W k.sa.sr)
 have HN2:=Lh (fun p m q t W (k:Sv7 w p m q t S D M H N W)=>rnack7_any S D H N.now N.ep N.lim W k.sa.sr)
 have HG1:=Lh (fun p m q t W (k:Sv7 w p m q t S D M H N W)=>schange_any S D H N.now N.ep N.vis W k.sa.sr (fun h=>sz4_ex (he_nums h).2.2.2))
 have HG2:=Lh (fun p m q t W (k:Sv7 w p m q t S D M H N W)=>rchange7_any S D H N.now N.ep N.vis W k.sa.sr)
 generalize spuR S M=R1 at*
 generalize puS S M=x1 at*
 generalize (if heS S H N.now N.ep true=0 then akF S H.id else zS)=R3 at*
 generalize heS S H N.now N.ep true=x3 at*
 generalize (if heS S H N.now N.ep (wi N.lim 1 8)=0 then gbN S H.id N.lim else zS)=R4 at*
 generalize heS S H N.now N.ep (wi N.lim 1 8)=x4 at*
 generalize (if chgE S H N.now N.ep N.vis=0 then chgF S H.id (N.now+N.vis) else zS)=R5 at*
 generalize chgE S H N.now N.ep N.vis=x5 at*
 clear hs
 go_enter Tryz.func34,Tryz.ntmps34
 go_wp2_with fail
 generalize ((((w.alloc (.cells #[.bool S.lv,.int .i64 S.lo,.int .i64 S.hi,.slice D.A S.cs.length D.c,.int .i64 S.hd,.int .i64 S.sz,.slice D.A2 S.l.length D.c2,.slice D.A3 S.h.length D.c3] 33)).alloc (.cells #[.int .i64 M.id,.int .i64 M.rt,.int .i64 M.ep,.int .i64 M.ct,.int .i64 M.gn,.int .i64 M.st,.string M.bd] 56)).alloc (.cells #[.int .i64 H.id,.int .i64 H.gn,.int .i64 H.rt,.int .i64 H.ht] 40)).alloc (.cells #[.int .i64 N.mx,.int .i64 N.now,.int .i64 N.vis,.int .i64 N.ep,.int .i64 N.lim,.int .i64 N.k,.int .i64 N.mid,.int .i64 N.rt] 37))=w1 at*
 obtain ⟨p,hp⟩:∃ p,p=w.heap.size:=⟨_,rfl⟩
 obtain ⟨m,hm⟩:∃ m,m=w.heap.size+1:=⟨_,rfl⟩
 obtain ⟨q,hq⟩:∃ q,q=w.heap.size+1+1:=⟨_,rfl⟩
 obtain ⟨t,ht⟩:∃ t,t=w.heap.size+1+1+1:=⟨_,rfl⟩
 rw [←ht,←hq,←hm,←hp]
 have HP:=Lh (show Sv7 w p m q t S D M H N w1 from by rw [hp,hm,hq,ht];exact HP.out)
 have HLT:=Lh (show w.heap.size≤p∧w.heap.size≤t by omega)
 clear hp hm hq ht
 refine (HC1.out _ _ _ _ _ HP.out).mono ?_
 rintro e w2 ⟨E,rfl,hn,hr,hb⟩
 have HP:=Lh (HP.out.below hb)
 have H1:=Lh hr
 clear hn hr hb
 obtain ⟨s0,s1,s2,s3,s4,s5,s6,s7,sl⟩:=HP.out.sa.s8.facts
 obtain ⟨⟨m0,m1,m2,m3,m4,m5,m6⟩,-,ml⟩:=HP.out.mb
 go_wp2_with fail
 clear s0 s1 s2 s3 s4 s5 s6 s7 sl m0 m1 m2 m3 m4 m5 m6 ml
 have HA:=Lh (SB8.start w2 R1 E 33)
 have HOA:=Lh (show t<w2.heap.size∧w.heap.size≤w2.heap.size from ⟨HP.out.nb.lt,HP.out.sa.bel.size⟩)
 have HP0:=Lh (HP.out.below ((Below.refl _ _).alloc (Nat.le_refl _) (.cells #[.bool R1.lv,.int .i64 R1.lo,.int .i64 R1.hi,.slice E.A R1.cs.length E.c,.int .i64 R1.hd,.int .i64 R1.sz,.slice E.A2 R1.l.length E.c2,.slice E.A3 R1.h.length E.c3] 33)))
 have H10:=Lh (H1.out.up ((Below.refl _ _).alloc (Nat.le_refl _) (.cells #[.bool R1.lv,.int .i64 R1.lo,.int .i64 R1.hi,.slice E.A R1.cs.length E.c,.int .i64 R1.hd,.int .i64 R1.sz,.slice E.A2 R1.l.length E.c2,.slice E.A3 R1.h.length E.c3] 33)))
 generalize w2.alloc (.cells #[.bool R1.lv,.int .i64 R1.lo,.int .i64 R1.hi,.slice E.A R1.cs.length E.c,.int .i64 R1.hd,.int .i64 R1.sz,.slice E.A2 R1.l.length E.c2,.slice E.A3 R1.h.length E.c3] 33)=w3 at*
 obtain ⟨a,ha⟩:∃ a,a=w2.heap.size:=⟨_,rfl⟩
 rw [←ha] at HA HOA ⊢
 clear ha HP H1
 refine (HC2.out _ _ _ _ _ HP0.out).mono ?_
 rintro e w4 ⟨G,rfl,hr,hb⟩
 have HP:=Lh (HP0.out.below hb)
 have H1:=Lh (H10.out.up hb)
 have H2:=Lh hr
 have HA:=Lh (HA.out.up hb)
 clear hr hb HP0 H10
 have HAL:=Lh HA.out.lt
 obtain ⟨a0,a1,a2,a3,a4,a5,a6,a7,al⟩:=HA.out.facts
 go_wp2_with fail
 clear a0 a1 a2 a3 a4 a5 a6 a7 al
 have HB:=Lh (SB8.start w4 R1 G 33)
 have HP0:=Lh (HP.out.below ((Below.refl _ _).alloc (Nat.le_refl _) (.cells #[.bool R1.lv,.int .i64 R1.lo,.int .i64 R1.hi,.slice G.A R1.cs.length G.c,.int .i64 R1.hd,.int .i64 R1.sz,.slice G.A2 R1.l.length G.c2,.slice G.A3 R1.h.length G.c3] 33)))
 have H10:=Lh (H1.out.up ((Below.refl _ _).alloc (Nat.le_refl _) (.cells #[.bool R1.lv,.int .i64 R1.lo,.int .i64 R1.hi,.slice G.A R1.cs.length G.c,.int .i64 R1.hd,.int .i64 R1.sz,.slice G.A2 R1.l.length G.c2,.slice G.A3 R1.h.length G.c3] 33)))
 have H20:=Lh (H2.out.up ((Below.refl _ _).alloc (Nat.le_refl _) (.cells #[.bool R1.lv,.int .i64 R1.lo,.int .i64 R1.hi,.slice G.A R1.cs.length G.c,.int .i64 R1.hd,.int .i64 R1.sz,.slice G.A2 R1.l.length G.c2,.slice G.A3 R1.h.length G.c3] 33)))
 have HA0:=Lh (HA.out.up ((Below.refl _ _).alloc (Nat.le_refl _) (.cells #[.bool R1.lv,.int .i64 R1.lo,.int .i64 R1.hi,.slice G.A R1.cs.length G.c,.int .i64 R1.hd,.int .i64 R1.sz,.slice G.A2 R1.l.length G.c2,.slice G.A3 R1.h.length G.c3] 33)))
 generalize w4.alloc (.cells #[.bool R1.lv,.int .i64 R1.lo,.int .i64 R1.hi,.slice G.A R1.cs.length G.c,.int .i64 R1.hd,.int .i64 R1.sz,.slice G.A2 R1.l.length G.c2,.slice G.A3 R1.h.length G.c3] 33)=w5 at*
 obtain ⟨b,hbb⟩:∃ b,b=w4.heap.size:=⟨_,rfl⟩
 rw [←hbb] at HB HAL ⊢
 have HS0:=Lh (show Sv8 w p m q t a b S D M H N R1 E R1 G w5 from ⟨HP0.out,HA0.out,HB.out,⟨HLT.out.2,HOA.out.1,HAL.out⟩,HO.out a (by have:=HLT.out;have:=HOA.out;omega),HO.out b (by have:=HLT.out;have:=HOA.out;have:=HAL.out;omega)⟩)
 have HNE:=Lh (show ¬a=b∧¬b=a∧¬p=a∧¬m=a∧¬q=a∧¬t=a∧¬p=b∧¬m=b∧¬q=b∧¬t=b∧¬a=p∧¬a=q∧¬a=t∧¬b=p∧¬b=q∧¬b=t from by have h1:=HP0.out.ne;have h2:=HOA.out;have h3:=HAL.out;omega)
 clear hbb HP HA HA0 HB H1 H2 HP0 HAL HOA HC1 HC2 HLT
 refine (bad7_no R1 E G x1 _ H10.out H20.out).mono ?_
 rintro e w6 ⟨rfl,hb⟩
 have HP:=Lh (HS0.out.below hb)
 clear hb H10 H20 HS0
 obtain ⟨s0,s1,s2,s3,s4,s5,s6,s7,sl⟩:=HP.out.s.sa.s8.facts
 obtain ⟨⟨n0,n1,n2,n3,n4,n5,n6,n7,nl⟩,-⟩:=HP.out.s.nb.all
 go_wp2_with fail
 clear s0 s1 s2 s3 s4 s5 s6 s7 sl n0 n1 n2 n3 n4 n5 n6 n7 nl
 refine (HT1.out _ _ _ _ _ HP.out.s).mono ?_
 rintro e w7 ⟨E,A5,c5,rfl,hn,hr,hA,hl,hb⟩
 have HP0:=Lh (HP.out.below hb)
 have HOX:=Lh (show SOff R2 E a∧SOff R2 E b from ⟨hn.off HP.out.aa.lt,hn.off HP.out.bb.lt⟩)
 have H10:=Lh hr
 have HL0:=Lh hl
 have HLX:=Lh (show OffB a L2.length A5∧OffB b L2.length A5 from ⟨offb_nw hA HP.out.aa.lt,offb_nw hA HP.out.bb.lt⟩)
 clear hn hr hb HP hA hl
 obtain ⟨⟨a0,a1,a2,a3,a4,a5,a6,a7,al⟩,⟨f0,f1,f2,f3,f4,f5,f6,f7⟩⟩:=HP0.out.aa.all
 go_upto_region 6 with (fail)
 clear a0 a1 a2 a3 a4 a5 a6 a7 al f0 f1 f2 f3 f4 f5 f6 f7
 have HP:=Lh (HP0.out.setA R2 E)
 have H1:=Lh (show SR (set8s w7 a R2 E) (set8s w7 a R2 E).heap.size R2 E from SR.sets HOX.out.1 (R2.l8 E) 0 w7 H10.out)
 have HL:=Lh (El.set8s HL0.out HLX.out.1 R2 E)
 have HSY:=Lh (show w7.heap.size≤(set8s w7 a R2 E).heap.size from by rw [set8s_size];exact Nat.le_refl _)
 obtain ⟨w8,hW⟩:∃ W,W=set8s w7 a R2 E:=⟨_,rfl⟩
 rw [←hW] at HP H1 HL HSY
 rw [show ((((((((w7.setCell ⟨a,0,none⟩ (.bool R2.lv)).setCell ⟨a,1,none⟩ (.int .i64 R2.lo)).setCell ⟨a,2,none⟩ (.int .i64 R2.hi)).setCell ⟨a,3,none⟩ (.slice E.A R2.cs.length E.c)).setCell ⟨a,4,none⟩ (.int .i64 R2.hd)).setCell ⟨a,5,none⟩ (.int .i64 R2.sz)).setCell ⟨a,6,none⟩ (.slice E.A2 R2.l.length E.c2)).setCell ⟨a,7,none⟩ (.slice E.A3 R2.h.length E.c3))=w8 from hW.symm]
 clear hW HP0 H10 HL0
 obtain ⟨s0,s1,s2,s3,s4,s5,s6,s7,sl⟩:=HP.out.s.sa.s8.facts
 obtain ⟨⟨n0,n1,n2,n3,n4,n5,n6,n7,nl⟩,-⟩:=HP.out.s.nb.all
 go_wp2_with fail
 clear s0 s1 s2 s3 s4 s5 s6 s7 sl n0 n1 n2 n3 n4 n5 n6 n7 nl
 refine (HT2.out _ _ _ _ _ HP.out.s).mono ?_
 rintro e w9 ⟨G,A6,c6,rfl,hr,hl,ho,hA,hb⟩
 have HP0:=Lh (HP.out.below hb)
 have HGX:=Lh (show SOff R2 G b from ho b HP.out.bb.lt HP.out.ob)
 have H10:=Lh (H1.out.up hb)
 have H20:=Lh hr
 have HL0:=Lh (show El w9 w9.heap.size (.slice A5 L2.length c5) L2 from ((HL.out.more HSY.out).below hb).more hb.size)
 have HK0:=Lh hl
 have HKX:=Lh (show OffB b L2.length A6 from offb_nw hA HP.out.bb.lt)
 clear hr hb ho HP H1 hA hl HL
 obtain ⟨⟨a0,a1,a2,a3,a4,a5,a6,a7,al⟩,⟨f0,f1,f2,f3,f4,f5,f6,f7⟩⟩:=HP0.out.bb.all
 go_upto_region 7 with (fail)
 clear a0 a1 a2 a3 a4 a5 a6 a7 al f0 f1 f2 f3 f4 f5 f6 f7
 have HP:=Lh (HP0.out.setB R2 G)
 have H1:=Lh (show SR (set8s w9 b R2 G) (set8s w9 b R2 G).heap.size R2 E from SR.sets HOX.out.2 (R2.l8 G) 0 w9 H10.out)
 have H2:=Lh (show SR (set8s w9 b R2 G) (set8s w9 b R2 G).heap.size R2 G from SR.sets HGX.out (R2.l8 G) 0 w9 H20.out)
 have HL:=Lh (El.set8s HL0.out HLX.out.2 R2 G)
 have HK:=Lh (El.set8s HK0.out HKX.out R2 G)
 have HSZ:=Lh (show w9.heap.size≤(set8s w9 b R2 G).heap.size from by rw [set8s_size];exact Nat.le_refl _)
 obtain ⟨w10,hW⟩:∃ W,W=set8s w9 b R2 G:=⟨_,rfl⟩
 rw [←hW] at HP H1 H2 HL HK HSZ
 rw [show ((((((((w9.setCell ⟨b,0,none⟩ (.bool R2.lv)).setCell ⟨b,1,none⟩ (.int .i64 R2.lo)).setCell ⟨b,2,none⟩ (.int .i64 R2.hi)).setCell ⟨b,3,none⟩ (.slice G.A R2.cs.length G.c)).setCell ⟨b,4,none⟩ (.int .i64 R2.hd)).setCell ⟨b,5,none⟩ (.int .i64 R2.sz)).setCell ⟨b,6,none⟩ (.slice G.A2 R2.l.length G.c2)).setCell ⟨b,7,none⟩ (.slice G.A3 R2.h.length G.c3))=w10 from hW.symm]
 clear hW HP0 H10 H20 HOX HGX HL0 HK0 HLX HKX
 obtain ⟨a0,a1,a2,a3,a4,a5,a6,a7,al⟩:=HP.out.aa.facts
 obtain ⟨b0,b1,b2,b3,b4,b5,b6,b7,bl⟩:=HP.out.bb.facts
 go_wp2_with fail
 clear a0 a1 a2 a3 a4 a5 a6 a7 al b0 b1 b2 b3 b4 b5 b6 b7 bl
 refine (bad7_no R2 E G x2 _ H1.out H2.out).mono ?_
 rintro e w11 ⟨rfl,hb⟩
 have HP0:=Lh (HP.out.below hb)
 have HL0:=Lh ((HL.out.more HSZ.out).below hb)
 have HK0:=Lh ((HK.out.more HSZ.out).below hb)
 clear hb H1 H2 HP HL HK HSZ
 go_wp2_with fail
 refine (rsamel_yes _ _ _ _ _ _ _ _ _ _ HL0.out HK0.out).mono ?_
 rintro e w12 ⟨rfl,hb⟩
 have HP:=Lh (HP0.out.below hb)
 clear hb HP0 HL0 HK0
 obtain ⟨s0,s1,s2,s3,s4,s5,s6,s7,sl⟩:=HP.out.s.sa.s8.facts
 obtain ⟨q0,q1,q2,q3,ql⟩:=HP.out.s.hn
 obtain ⟨⟨n0,n1,n2,n3,n4,n5,n6,n7,nl⟩,-⟩:=HP.out.s.nb.all
 go_wp2_with fail
 clear s0 s1 s2 s3 s4 s5 s6 s7 sl q0 q1 q2 q3 ql n0 n1 n2 n3 n4 n5 n6 n7 nl
 refine (HA1.out _ _ _ _ _ HP.out.s).mono ?_
 rintro e w13 ⟨E,rfl,hn,hr,hb⟩
 have HP0:=Lh (HP.out.below hb)
 have HOX:=Lh (show SOff R3 E a∧SOff R3 E b from ⟨hn.off HP.out.aa.lt,hn.off HP.out.bb.lt⟩)
 have H10:=Lh hr
 clear hn hr hb HP
 obtain ⟨⟨a0,a1,a2,a3,a4,a5,a6,a7,al⟩,⟨f0,f1,f2,f3,f4,f5,f6,f7⟩⟩:=HP0.out.aa.all
 go_upto_region 10 with (fail)
 clear a0 a1 a2 a3 a4 a5 a6 a7 al f0 f1 f2 f3 f4 f5 f6 f7
 have HP:=Lh (HP0.out.setA R3 E)
 have H1:=Lh (show SR (set8s w13 a R3 E) (set8s w13 a R3 E).heap.size R3 E from SR.sets HOX.out.1 (R3.l8 E) 0 w13 H10.out)
 obtain ⟨w14,hW⟩:∃ W,W=set8s w13 a R3 E:=⟨_,rfl⟩
 rw [←hW] at HP H1
 rw [show ((((((((w13.setCell ⟨a,0,none⟩ (.bool R3.lv)).setCell ⟨a,1,none⟩ (.int .i64 R3.lo)).setCell ⟨a,2,none⟩ (.int .i64 R3.hi)).setCell ⟨a,3,none⟩ (.slice E.A R3.cs.length E.c)).setCell ⟨a,4,none⟩ (.int .i64 R3.hd)).setCell ⟨a,5,none⟩ (.int .i64 R3.sz)).setCell ⟨a,6,none⟩ (.slice E.A2 R3.l.length E.c2)).setCell ⟨a,7,none⟩ (.slice E.A3 R3.h.length E.c3))=w14 from hW.symm]
 clear hW HP0 H10
 obtain ⟨s0,s1,s2,s3,s4,s5,s6,s7,sl⟩:=HP.out.s.sa.s8.facts
 obtain ⟨q0,q1,q2,q3,ql⟩:=HP.out.s.hn
 obtain ⟨⟨n0,n1,n2,n3,n4,n5,n6,n7,nl⟩,-⟩:=HP.out.s.nb.all
 go_wp2_with fail
 clear s0 s1 s2 s3 s4 s5 s6 s7 sl q0 q1 q2 q3 ql n0 n1 n2 n3 n4 n5 n6 n7 nl
 refine (HA2.out _ _ _ _ _ HP.out.s).mono ?_
 rintro e w15 ⟨G,rfl,hr,ho,hb⟩
 have HP0:=Lh (HP.out.below hb)
 have HGX:=Lh (show SOff R3 G b from ho b HP.out.bb.lt HP.out.ob)
 have H10:=Lh (H1.out.up hb)
 have H20:=Lh hr
 clear hr hb ho HP H1
 obtain ⟨⟨a0,a1,a2,a3,a4,a5,a6,a7,al⟩,⟨f0,f1,f2,f3,f4,f5,f6,f7⟩⟩:=HP0.out.bb.all
 go_upto_region 11 with (fail)
 clear a0 a1 a2 a3 a4 a5 a6 a7 al f0 f1 f2 f3 f4 f5 f6 f7
 have HP:=Lh (HP0.out.setB R3 G)
 have H1:=Lh (show SR (set8s w15 b R3 G) (set8s w15 b R3 G).heap.size R3 E from SR.sets HOX.out.2 (R3.l8 G) 0 w15 H10.out)
 have H2:=Lh (show SR (set8s w15 b R3 G) (set8s w15 b R3 G).heap.size R3 G from SR.sets HGX.out (R3.l8 G) 0 w15 H20.out)
 obtain ⟨w16,hW⟩:∃ W,W=set8s w15 b R3 G:=⟨_,rfl⟩
 rw [←hW] at HP H1 H2
 rw [show ((((((((w15.setCell ⟨b,0,none⟩ (.bool R3.lv)).setCell ⟨b,1,none⟩ (.int .i64 R3.lo)).setCell ⟨b,2,none⟩ (.int .i64 R3.hi)).setCell ⟨b,3,none⟩ (.slice G.A R3.cs.length G.c)).setCell ⟨b,4,none⟩ (.int .i64 R3.hd)).setCell ⟨b,5,none⟩ (.int .i64 R3.sz)).setCell ⟨b,6,none⟩ (.slice G.A2 R3.l.length G.c2)).setCell ⟨b,7,none⟩ (.slice G.A3 R3.h.length G.c3))=w16 from hW.symm]
 clear hW HP0 H10 H20 HOX HGX
 obtain ⟨a0,a1,a2,a3,a4,a5,a6,a7,al⟩:=HP.out.aa.facts
 obtain ⟨b0,b1,b2,b3,b4,b5,b6,b7,bl⟩:=HP.out.bb.facts
 go_wp2_with fail
 clear a0 a1 a2 a3 a4 a5 a6 a7 al b0 b1 b2 b3 b4 b5 b6 b7 bl
 refine (bad7_no R3 E G x3 _ H1.out H2.out).mono ?_
 rintro e w17 ⟨rfl,hb⟩
 have HP0:=Lh (HP.out.below hb)
 have HP:=HP0
 clear hb H1 H2 HP0
 obtain ⟨s0,s1,s2,s3,s4,s5,s6,s7,sl⟩:=HP.out.s.sa.s8.facts
 obtain ⟨q0,q1,q2,q3,ql⟩:=HP.out.s.hn
 obtain ⟨⟨n0,n1,n2,n3,n4,n5,n6,n7,nl⟩,-⟩:=HP.out.s.nb.all
 go_wp2_with fail
 clear s0 s1 s2 s3 s4 s5 s6 s7 sl q0 q1 q2 q3 ql n0 n1 n2 n3 n4 n5 n6 n7 nl
 refine (HN1.out _ _ _ _ _ HP.out.s).mono ?_
 rintro e w18 ⟨E,rfl,hn,hr,hb⟩
 have HP0:=Lh (HP.out.below hb)
 have HOX:=Lh (show SOff R4 E a∧SOff R4 E b from ⟨hn.off HP.out.aa.lt,hn.off HP.out.bb.lt⟩)
 have H10:=Lh hr
 clear hn hr hb HP
 obtain ⟨⟨a0,a1,a2,a3,a4,a5,a6,a7,al⟩,⟨f0,f1,f2,f3,f4,f5,f6,f7⟩⟩:=HP0.out.aa.all
 go_upto_region 14 with (fail)
 clear a0 a1 a2 a3 a4 a5 a6 a7 al f0 f1 f2 f3 f4 f5 f6 f7
 have HP:=Lh (HP0.out.setA R4 E)
 have H1:=Lh (show SR (set8s w18 a R4 E) (set8s w18 a R4 E).heap.size R4 E from SR.sets HOX.out.1 (R4.l8 E) 0 w18 H10.out)
 obtain ⟨w19,hW⟩:∃ W,W=set8s w18 a R4 E:=⟨_,rfl⟩
 rw [←hW] at HP H1
 rw [show ((((((((w18.setCell ⟨a,0,none⟩ (.bool R4.lv)).setCell ⟨a,1,none⟩ (.int .i64 R4.lo)).setCell ⟨a,2,none⟩ (.int .i64 R4.hi)).setCell ⟨a,3,none⟩ (.slice E.A R4.cs.length E.c)).setCell ⟨a,4,none⟩ (.int .i64 R4.hd)).setCell ⟨a,5,none⟩ (.int .i64 R4.sz)).setCell ⟨a,6,none⟩ (.slice E.A2 R4.l.length E.c2)).setCell ⟨a,7,none⟩ (.slice E.A3 R4.h.length E.c3))=w19 from hW.symm]
 clear hW HP0 H10
 obtain ⟨s0,s1,s2,s3,s4,s5,s6,s7,sl⟩:=HP.out.s.sa.s8.facts
 obtain ⟨q0,q1,q2,q3,ql⟩:=HP.out.s.hn
 obtain ⟨⟨n0,n1,n2,n3,n4,n5,n6,n7,nl⟩,-⟩:=HP.out.s.nb.all
 go_wp2_with fail
 clear s0 s1 s2 s3 s4 s5 s6 s7 sl q0 q1 q2 q3 ql n0 n1 n2 n3 n4 n5 n6 n7 nl
 refine (HN2.out _ _ _ _ _ HP.out.s).mono ?_
 rintro e w20 ⟨G,rfl,hr,ho,hb⟩
 have HP0:=Lh (HP.out.below hb)
 have HGX:=Lh (show SOff R4 G b from ho b HP.out.bb.lt HP.out.ob)
 have H10:=Lh (H1.out.up hb)
 have H20:=Lh hr
 clear hr hb ho HP H1
 obtain ⟨⟨a0,a1,a2,a3,a4,a5,a6,a7,al⟩,⟨f0,f1,f2,f3,f4,f5,f6,f7⟩⟩:=HP0.out.bb.all
 go_upto_region 15 with (fail)
 clear a0 a1 a2 a3 a4 a5 a6 a7 al f0 f1 f2 f3 f4 f5 f6 f7
 have HP:=Lh (HP0.out.setB R4 G)
 have H1:=Lh (show SR (set8s w20 b R4 G) (set8s w20 b R4 G).heap.size R4 E from SR.sets HOX.out.2 (R4.l8 G) 0 w20 H10.out)
 have H2:=Lh (show SR (set8s w20 b R4 G) (set8s w20 b R4 G).heap.size R4 G from SR.sets HGX.out (R4.l8 G) 0 w20 H20.out)
 obtain ⟨w21,hW⟩:∃ W,W=set8s w20 b R4 G:=⟨_,rfl⟩
 rw [←hW] at HP H1 H2
 rw [show ((((((((w20.setCell ⟨b,0,none⟩ (.bool R4.lv)).setCell ⟨b,1,none⟩ (.int .i64 R4.lo)).setCell ⟨b,2,none⟩ (.int .i64 R4.hi)).setCell ⟨b,3,none⟩ (.slice G.A R4.cs.length G.c)).setCell ⟨b,4,none⟩ (.int .i64 R4.hd)).setCell ⟨b,5,none⟩ (.int .i64 R4.sz)).setCell ⟨b,6,none⟩ (.slice G.A2 R4.l.length G.c2)).setCell ⟨b,7,none⟩ (.slice G.A3 R4.h.length G.c3))=w21 from hW.symm]
 clear hW HP0 H10 H20 HOX HGX
 obtain ⟨a0,a1,a2,a3,a4,a5,a6,a7,al⟩:=HP.out.aa.facts
 obtain ⟨b0,b1,b2,b3,b4,b5,b6,b7,bl⟩:=HP.out.bb.facts
 go_wp2_with fail
 clear a0 a1 a2 a3 a4 a5 a6 a7 al b0 b1 b2 b3 b4 b5 b6 b7 bl
 refine (bad7_no R4 E G x4 _ H1.out H2.out).mono ?_
 rintro e w22 ⟨rfl,hb⟩
 have HP0:=Lh (HP.out.below hb)
 have HP:=HP0
 clear hb H1 H2 HP0
 obtain ⟨s0,s1,s2,s3,s4,s5,s6,s7,sl⟩:=HP.out.s.sa.s8.facts
 obtain ⟨q0,q1,q2,q3,ql⟩:=HP.out.s.hn
 obtain ⟨⟨n0,n1,n2,n3,n4,n5,n6,n7,nl⟩,-⟩:=HP.out.s.nb.all
 go_wp2_with fail
 clear s0 s1 s2 s3 s4 s5 s6 s7 sl q0 q1 q2 q3 ql n0 n1 n2 n3 n4 n5 n6 n7 nl
 refine (HG1.out _ _ _ _ _ HP.out.s).mono ?_
 rintro e w23 ⟨E,rfl,hn,hr,hb⟩
 have HP0:=Lh (HP.out.below hb)
 have HOX:=Lh (show SOff R5 E a∧SOff R5 E b from ⟨hn.off HP.out.aa.lt,hn.off HP.out.bb.lt⟩)
 have H10:=Lh hr
 clear hn hr hb HP
 obtain ⟨⟨a0,a1,a2,a3,a4,a5,a6,a7,al⟩,⟨f0,f1,f2,f3,f4,f5,f6,f7⟩⟩:=HP0.out.aa.all
 go_upto_region 18 with (fail)
 clear a0 a1 a2 a3 a4 a5 a6 a7 al f0 f1 f2 f3 f4 f5 f6 f7
 have HP:=Lh (HP0.out.setA R5 E)
 have H1:=Lh (show SR (set8s w23 a R5 E) (set8s w23 a R5 E).heap.size R5 E from SR.sets HOX.out.1 (R5.l8 E) 0 w23 H10.out)
 obtain ⟨w24,hW⟩:∃ W,W=set8s w23 a R5 E:=⟨_,rfl⟩
 rw [←hW] at HP H1
 rw [show ((((((((w23.setCell ⟨a,0,none⟩ (.bool R5.lv)).setCell ⟨a,1,none⟩ (.int .i64 R5.lo)).setCell ⟨a,2,none⟩ (.int .i64 R5.hi)).setCell ⟨a,3,none⟩ (.slice E.A R5.cs.length E.c)).setCell ⟨a,4,none⟩ (.int .i64 R5.hd)).setCell ⟨a,5,none⟩ (.int .i64 R5.sz)).setCell ⟨a,6,none⟩ (.slice E.A2 R5.l.length E.c2)).setCell ⟨a,7,none⟩ (.slice E.A3 R5.h.length E.c3))=w24 from hW.symm]
 clear hW HP0 H10
 obtain ⟨s0,s1,s2,s3,s4,s5,s6,s7,sl⟩:=HP.out.s.sa.s8.facts
 obtain ⟨q0,q1,q2,q3,ql⟩:=HP.out.s.hn
 obtain ⟨⟨n0,n1,n2,n3,n4,n5,n6,n7,nl⟩,-⟩:=HP.out.s.nb.all
 go_wp2_with fail
 clear s0 s1 s2 s3 s4 s5 s6 s7 sl q0 q1 q2 q3 ql n0 n1 n2 n3 n4 n5 n6 n7 nl
 refine (HG2.out _ _ _ _ _ HP.out.s).mono ?_
 rintro e w25 ⟨G,rfl,hr,ho,hb⟩
 have HP0:=Lh (HP.out.below hb)
 have HGX:=Lh (show SOff R5 G b from ho b HP.out.bb.lt HP.out.ob)
 have H10:=Lh (H1.out.up hb)
 have H20:=Lh hr
 clear hr hb ho HP H1
 obtain ⟨⟨a0,a1,a2,a3,a4,a5,a6,a7,al⟩,⟨f0,f1,f2,f3,f4,f5,f6,f7⟩⟩:=HP0.out.bb.all
 go_upto_region 19 with (fail)
 clear a0 a1 a2 a3 a4 a5 a6 a7 al f0 f1 f2 f3 f4 f5 f6 f7
 have HP:=Lh (HP0.out.setB R5 G)
 have H1:=Lh (show SR (set8s w25 b R5 G) (set8s w25 b R5 G).heap.size R5 E from SR.sets HOX.out.2 (R5.l8 G) 0 w25 H10.out)
 have H2:=Lh (show SR (set8s w25 b R5 G) (set8s w25 b R5 G).heap.size R5 G from SR.sets HGX.out (R5.l8 G) 0 w25 H20.out)
 obtain ⟨w26,hW⟩:∃ W,W=set8s w25 b R5 G:=⟨_,rfl⟩
 rw [←hW] at HP H1 H2
 rw [show ((((((((w25.setCell ⟨b,0,none⟩ (.bool R5.lv)).setCell ⟨b,1,none⟩ (.int .i64 R5.lo)).setCell ⟨b,2,none⟩ (.int .i64 R5.hi)).setCell ⟨b,3,none⟩ (.slice G.A R5.cs.length G.c)).setCell ⟨b,4,none⟩ (.int .i64 R5.hd)).setCell ⟨b,5,none⟩ (.int .i64 R5.sz)).setCell ⟨b,6,none⟩ (.slice G.A2 R5.l.length G.c2)).setCell ⟨b,7,none⟩ (.slice G.A3 R5.h.length G.c3))=w26 from hW.symm]
 clear hW HP0 H10 H20 HOX HGX
 obtain ⟨a0,a1,a2,a3,a4,a5,a6,a7,al⟩:=HP.out.aa.facts
 obtain ⟨b0,b1,b2,b3,b4,b5,b6,b7,bl⟩:=HP.out.bb.facts
 go_wp2_with fail
 clear a0 a1 a2 a3 a4 a5 a6 a7 al b0 b1 b2 b3 b4 b5 b6 b7 bl
 refine (bad7_no R5 E G x5 _ H1.out H2.out).mono ?_
 rintro e w27 ⟨rfl,hb⟩
 have HP0:=Lh (HP.out.below hb)
 have HP:=HP0
 clear hb H1 H2 HP0
 go_wp2
 go_ret
 exact ⟨rfl,HP.out.s.sa.bel⟩
theorem sr_len7 {S:Sh} (h:SrSh S):S.l.length≤1000:=by
 rcases h with ⟨V,k,rfl⟩ | ⟨k,_,_,rfl⟩
 ·have h3:V.sh.l.length≤12:=k.tb.len
  omega
 ·show ([]:List Le).length≤1000;simp
structure CvAt (w:World) (g p:Nat) (S:Sh) (D:Sx) (W:World):Prop where
 src:SrcAt W w.heap.size g
 sa:SAt w p S D W
 off:SOff S D g
 gp:g<p
section
variable {w W W' : World} {g p:Nat} {S:Sh} {D:Sx}
theorem CvAt.bg (h:CvAt w g p S D W):w.heap.size≤g:=h.src.1
theorem CvAt.turn (h:CvAt w g p S D W) (hs:SrcAt W' w.heap.size g) (hg:W.grownBy W' (some g)):CvAt w g p S D W':=⟨hs,h.sa.grownG hg h.off (by have:=h.gp;omega) h.bg,h.off,h.gp⟩
theorem CvAt.below (h:CvAt w g p S D W) (hb:Below W.heap.size W W'):CvAt w g p S D W':=⟨h.src.below hb,h.sa.below hb,h.off,h.gp⟩
end
section
variable {w W:World} {g p:Nat} {S:Sh} {D:Sx}
theorem CvAt.set0 (h:CvAt w g p S D W) (b:Bool):CvAt w g p ⟨b,S.lo,S.hi,S.cs,S.hd,S.sz,S.l,S.h⟩ D (W.setCell ⟨p,0,none⟩ (.bool b)):=by
 have h1:=h.gp
 have h2:=h.bg
 obtain ⟨c0,c1,c2,c3,c4,c5,c6,c7,fr,lt⟩:=h.sa.s8
 have hr:=h.sa.sr.offp (p:=⟨p,0,none⟩) h.sa.off (.bool b)
 exact ⟨h.src.other (p:=⟨p,0,none⟩) (show p≠g by omega) (show w.heap.size≤p by omega) _,⟨⟨by simp [go_sem,c0],by simp [go_sem,c1],by simp [go_sem,c2],by simp [go_sem,c3],by simp [go_sem,c4],by simp [go_sem,c5],by simp [go_sem,c6],by simp [go_sem,c7],fun o=>by simp [go_sem,fr o],by simp [lt]⟩,⟨hr.ls.more (by simp),hr.el.more (by simp),hr.dl.more (by simp)⟩,⟨h.sa.off.o1,h.sa.off.o2,h.sa.off.o3⟩,h.sa.bel.setCell (p:=⟨p,0,none⟩) h.sa.old _,h.sa.old⟩,⟨h.off.o1,h.off.o2,h.off.o3⟩,h.gp⟩
theorem CvAt.set1 (h:CvAt w g p S D W) (x:Int):CvAt w g p ⟨S.lv,x,S.hi,S.cs,S.hd,S.sz,S.l,S.h⟩ D (W.setCell ⟨p,1,none⟩ (.int .i64 x)):=by
 have h1:=h.gp
 have h2:=h.bg
 obtain ⟨c0,c1,c2,c3,c4,c5,c6,c7,fr,lt⟩:=h.sa.s8
 have hr:=h.sa.sr.offp (p:=⟨p,1,none⟩) h.sa.off (.int .i64 x)
 exact ⟨h.src.other (p:=⟨p,1,none⟩) (show p≠g by omega) (show w.heap.size≤p by omega) _,⟨⟨by simp [go_sem,c0],by simp [go_sem,c1],by simp [go_sem,c2],by simp [go_sem,c3],by simp [go_sem,c4],by simp [go_sem,c5],by simp [go_sem,c6],by simp [go_sem,c7],fun o=>by simp [go_sem,fr o],by simp [lt]⟩,⟨hr.ls.more (by simp),hr.el.more (by simp),hr.dl.more (by simp)⟩,⟨h.sa.off.o1,h.sa.off.o2,h.sa.off.o3⟩,h.sa.bel.setCell (p:=⟨p,1,none⟩) h.sa.old _,h.sa.old⟩,⟨h.off.o1,h.off.o2,h.off.o3⟩,h.gp⟩
theorem CvAt.set2 (h:CvAt w g p S D W) (x:Int):CvAt w g p ⟨S.lv,S.lo,x,S.cs,S.hd,S.sz,S.l,S.h⟩ D (W.setCell ⟨p,2,none⟩ (.int .i64 x)):=by
 have h1:=h.gp
 have h2:=h.bg
 obtain ⟨c0,c1,c2,c3,c4,c5,c6,c7,fr,lt⟩:=h.sa.s8
 have hr:=h.sa.sr.offp (p:=⟨p,2,none⟩) h.sa.off (.int .i64 x)
 exact ⟨h.src.other (p:=⟨p,2,none⟩) (show p≠g by omega) (show w.heap.size≤p by omega) _,⟨⟨by simp [go_sem,c0],by simp [go_sem,c1],by simp [go_sem,c2],by simp [go_sem,c3],by simp [go_sem,c4],by simp [go_sem,c5],by simp [go_sem,c6],by simp [go_sem,c7],fun o=>by simp [go_sem,fr o],by simp [lt]⟩,⟨hr.ls.more (by simp),hr.el.more (by simp),hr.dl.more (by simp)⟩,⟨h.sa.off.o1,h.sa.off.o2,h.sa.off.o3⟩,h.sa.bel.setCell (p:=⟨p,2,none⟩) h.sa.old _,h.sa.old⟩,⟨h.off.o1,h.off.o2,h.off.o3⟩,h.gp⟩
end
structure SvB (w:World) (g p u q:Nat) (S:Sh) (D:Sx) (H:Hn) (N:Nm) (W:World):Prop where
 cv:CvAt w g p S D W
 hb:Hb W u H
 nb:Nb W q N
 pu:p<u
 uq:u<q
abbrev SvK (p u q:Nat) (S:Sh) (D:Sx) (H:Hn) (N:Nm) (W:World):Prop:=K8 p S D W∧(W.cell? ⟨u,0,none⟩=some (.int .i64 H.id)∧W.cell? ⟨u,1,none⟩=some (.int .i64 H.gn)∧W.cell? ⟨u,2,none⟩=some (.int .i64 H.rt)∧W.cell? ⟨u,3,none⟩=some (.int .i64 H.ht))∧W.cell? ⟨q,0,none⟩=some (.int .i64 N.mx)∧W.cell? ⟨q,1,none⟩=some (.int .i64 N.now)∧W.cell? ⟨q,2,none⟩=some (.int .i64 N.vis)∧W.cell? ⟨q,3,none⟩=some (.int .i64 N.ep)∧W.cell? ⟨q,4,none⟩=some (.int .i64 N.lim)∧W.cell? ⟨q,5,none⟩=some (.int .i64 N.k)∧W.cell? ⟨q,6,none⟩=some (.int .i64 N.mid)∧W.cell? ⟨q,7,none⟩=some (.int .i64 N.rt)
section
variable {w W W' : World} {g p u q:Nat} {S:Sh} {D:Sx} {H:Hn} {N:Nm}
theorem SvB.k (h:SvB w g p u q S D H N W):SvK p u q S D H N W:=⟨h.cv.sa.k8,⟨h.hb.c0,h.hb.c1,h.hb.c2,h.hb.c3⟩,h.nb.c0,h.nb.c1,h.nb.c2,h.nb.c3,h.nb.c4,h.nb.c5,h.nb.c6,h.nb.c7⟩
theorem SvB.below (h:SvB w g p u q S D H N W) (hb:Below W.heap.size W W'):SvB w g p u q S D H N W':=⟨h.cv.below hb,h.hb.up hb,h.nb.up hb,h.pu,h.uq⟩
theorem SvB.turn (h:SvB w g p u q S D H N W) (hs:SrcAt W' w.heap.size g) (hg:W.grownBy W' (some g)):SvB w g p u q S D H N W':=
 ⟨h.cv.turn hs hg,h.hb.grown hg (by have:=h.pu;have:=h.cv.gp;omega),h.nb.grown hg (fun e=>by injection e;have:=h.pu;have:=h.uq;have:=h.cv.gp;omega),h.pu,h.uq⟩
theorem SvB.start (h:CvAt w g p S D W) (H:Hn) (N:Nm) (t t' : TypeId):SvB w g p W.heap.size (W.heap.size+1) S D H N ((W.alloc (.cells #[.int .i64 H.id,.int .i64 H.gn,.int .i64 H.rt,.int .i64 H.ht] t)).alloc (.cells #[.int .i64 N.mx,.int .i64 N.now,.int .i64 N.vis,.int .i64 N.ep,.int .i64 N.lim,.int .i64 N.k,.int .i64 N.mid,.int .i64 N.rt] t')):=by
 have h1:=Nb.start (W.alloc (.cells #[.int .i64 H.id,.int .i64 H.gn,.int .i64 H.rt,.int .i64 H.ht] t)) N t'
 rw [World.size_alloc] at h1
 exact ⟨(h.below ((Below.refl _ _).alloc (Nat.le_refl _) _)).below ((Below.refl _ _).alloc (Nat.le_refl _) _),(Hb.start W H.id H.gn H.rt H.ht t).alloc _,h1,h.sa.s8.lt,Nat.lt_succ_self _⟩
end
end Go.Proofs.YtncgbldcjfbknaaGreat
