/- What is proved here: parts of the proof: Sco7 Scp7 Yn Yx Ya Shnk. -/
import Derived.Test.YtkecnihgjepfeaaGreatJ25
namespace Go.Proofs.YtkecnihgjepfeaaGreat
open Go.RowKit
set_option linter.unusedVariables false
set_option linter.unusedSimpArgs false
set_option maxHeartbeats 8000000
set_option maxRecDepth 20000
noncomputable def ctB (S:Sh) (ep lim:Int):Bool:=decide (exS S (wi ep 0 65536&&wi lim 1 8)=0)
noncomputable def ctR (S:Sh) (ep lim:Int):Int:=if ctB S ep lim=true then (((lsF S.cs S.hd S.sz).countP (fun M=>!puF M ep&&!spF M lim):Nat):Int) else 0
noncomputable def ctL (S:Sh) (ep lim:Int):Int:=if ctB S ep lim=true then (((S.l.map Le.m).countP (fun M=>!puF M ep):Nat):Int) else 0
theorem ct_no {S:Sh} {ep lim:Int} (h:ctB S ep lim=false):ctR S ep lim=0/\ctL S ep lim=0:=by unfold ctR ctL;rw [h];exact ⟨rfl,rfl⟩
theorem ct_yes {S:Sh} {ep lim:Int} (h:ctB S ep lim=true):ctR S ep lim=(((lsF S.cs S.hd S.sz).countP (fun M=>!puF M ep&&!spF M lim):Nat):Int)/\ctL S ep lim=(((S.l.map Le.m).countP (fun M=>!puF M ep):Nat):Int):=by unfold ctR ctL;rw [h];exact ⟨rfl,rfl⟩
theorem cnt_succ {p:Msg->Bool} {l:List Msg} {k:Nat} (h:k<l.length):(l.take (k+1)).countP p=(l.take k).countP p+(if p l[k]=true then 1 else 0):=by
 rw [<-List.take_append_getElem h,List.countP_append];simp [List.countP_cons]
theorem cnt_le (p:Msg->Bool) (l:List Msg) (k:Nat):(l.take k).countP p<=l.length:=Nat.le_trans (List.countP_le_length ..) (by simp;omega)
structure CtAt (w:World) (p:Nat) (S:Sh) (D:Sx) (v v' : Value) (L L' : List Msg) (W:World):Prop where
 sa:SAt w p S D W
 ls:Ls W W.heap.size v L
 ls' : Ls W W.heap.size v' L'
theorem CtAt.below {w W W' : World} {p:Nat} {S:Sh} {D:Sx} {v v' : Value} {L L' : List Msg} (h:CtAt w p S D v v' L L' W) (hb:Below W.heap.size W W'):CtAt w p S D v v' L L' W':=⟨h.sa.below hb,h.ls.upz hb,h.ls'.upz hb⟩
theorem scounts_any (S:Sh) (D:Sx) (ep lim:Int) (w:World) (hs:SR w w.heap.size S D) :
  Calls Tryz.prog 125 #[sv S D,.int .i64 ep,.int .i64 lim] w fun e w'=>e=.returned (.tuple #[.int .i64 (ctR S ep lim),.int .i64 (ctL S ep lim)])/\Below w.heap.size w w':=by
 have H0:=Lh (SAt.start 72 hs)
 have HV:=Lh (fun A c p W (k:SAt w p S D W) (hn:Nl W W.heap.size (.slice A 2 c) [⟨ep,0,65536⟩,⟨lim,1,8⟩])=>sexam_any S D A 2 c [⟨ep,0,65536⟩,⟨lim,1,8⟩] W k.sr hn)
 have HE:([⟨ep,0,65536⟩,⟨lim,1,8⟩]:List Rn).all Rn.ok=(wi ep 0 65536&&wi lim 1 8):=by simp [Rn.ok]
 rw [HE] at HV
 clear HE hs
 have HP:=Lh (fun W=>aepoch_any ep W)
 have HT:=Lh (fun W=>alimit_any lim W)
 go_enter Tryz.func125,Tryz.ntmps125
 obtain ⟨t0,t1,t2,t3,t4,t5,t6,t7,tl⟩:=H0.out.s8.facts
 go_upto_region 1 with (fail)
 clear t0 t1 t2 t3 t4 t5 t6 t7 tl
 obtain ⟨p,hp⟩:∃ p,p=w.heap.size:=⟨_,rfl⟩
 rw [<-hp]
 rw [<-hp] at H0
 clear hp
 generalize w.alloc (.cells #[.bool S.lv,.int .i64 S.lo,.int .i64 S.hi,.slice D.A S.cs.length D.c,.int .i64 S.hd,.int .i64 S.sz,.slice D.A2 S.l.length D.c2,.slice D.A3 S.h.length D.c3] 72)=w1 at*
 have HD:=Lh H0.out.drew
 have HT0:=Lh (show K8 p S D w1.drew from HD.out.k8)
 go_region_held3 (fun W=>K8 p S D W)
  (first | with_reducible exact HT0.out | with_reducible exact HT1.out | with_reducible exact HT2.out | with_reducible exact HT3.out | with_reducible exact HT4.out)
  (first
  | (go_at_call 144;(with_reducible refine (HP.out _).mono ?_);rintro e w3 ⟨rfl,hb⟩;have HA1:=Lh (HD.out.below hb);have HT1:=Lh HA1.out.k8;clear hb)
  | (go_at_call 145;(with_reducible refine (HT.out _).mono ?_);rintro e w4 ⟨rfl,hb⟩;have HA2:=Lh (HA1.out.below hb);have HT2:=Lh HA2.out.k8;have HA3:=Lh (HA2.out.alloc (.cells #[.int .i64 ep,.int .i64 0,.int .i64 65536,.int .i64 lim,.int .i64 1,.int .i64 8] 209));have HT3:=Lh HA3.out.k8;have HNL:=Lh (nl_two w4 ⟨ep,0,65536⟩ ⟨lim,1,8⟩ 209);clear hb)
  | (go_at_call 143;(with_reducible refine (HV.out _ _ _ _ HA3.out ?_).mono ?_);(have:=HNL.out;simpa using this);rintro e w5 ⟨rfl,hb⟩;have HA4:=Lh (HA3.out.below hb);have HT4:=Lh HA4.out.k8;clear hb))
 clear H0 HD HT0 HA1 HT1 HA2 HT2 HA3 HT3 HNL HT4 HT HP HV
 by_cases h1:exS S (wi ep 0 65536&&wi lim 1 8)=0
 ·have HX:=Lh (ct_yes (S:=S) (ep:=ep) (lim:=lim) (by unfold ctB;rw [h1];rfl))
  have hn:=ex_nums (show exS S true=0 by obtain ⟨a,b,-⟩:=exS_zero h1;exact exS_ok a b rfl)
  rw [h1]
  have HRE:=Lh (fun W (q:SAt w p S D W)=>glist_any D.A S.cs.length D.c S.cs S.hd S.sz W q.sr.ls)
  have HN1:=Lh (show (lsF S.cs S.hd S.sz).length<=1000 from Nat.le_trans (lsF_le _ _ _) (by omega))
  have HN2:=Lh (show S.l.length<=1000 by omega)
  generalize lsF S.cs S.hd S.sz=L at*
  clear h1 hn
  obtain ⟨t0,t1,t2,t3,t4,t5,t6,t7,tl⟩:=HA4.out.s8.facts
  go_wp2_with fail
  clear t0 t1 t2 t3 t4 t5 t6 t7 tl
  refine (HRE.out _ HA4.out).mono ?_
  rintro e w6 ⟨v4,rfl,-,hl,hb⟩
  obtain ⟨A4,c4,rfl,_,_⟩:=hl.form
  have HC:=Lh (CtAt.mk (HA4.out.below hb) hl Ls.nil)
  clear hl hb HA4
  obtain ⟨t0,t1,t2,t3,t4,t5,t6,t7,tl⟩:=HC.out.sa.s8.facts
  go_wp2
  clear t0 t1 t2 t3 t4 t5 t6 t7 tl HRE
  have HPU:=Lh (fun M W=>purged_any M ep W)
  have HSP:=Lh (fun M W=>spent_any M lim W)
  have HF1:=Lh (fun M=>show (fun M=>!puF M ep&&!spF M lim) M=(!puF M ep&&!spF M lim) from rfl)
  have HF2:=Lh (fun M=>show (fun M=>!puF M ep) M=(!puF M ep) from rfl)
  generalize (fun M=>!puF M ep&&!spF M lim)=f1 at*
  generalize (fun M=>!puF M ep)=f2 at*
  have hl1:L.length<=9223372036854775807:=by have:=HN1.out;omega
  have HT1:=Lh (show L.countP f1=(L.take L.length).countP f1 by rw [List.take_length])
  go_loopw [6,24] (fun n i wr=>∃ k:Nat,k<=L.length/\i=.int .i64 k/\n=.int .i64 (((L.take k).countP f1:Nat):Int)/\Hid (CtAt w p S D (.slice A4 L.length c4) (.slice none 0 0) L [] wr)) (fun _ i _=>L.length - (intOf i).toNat)
  case atStart=>exact ⟨0,Nat.zero_le _,rfl,rfl,HC⟩
  case round=>
   obtain ⟨k,hk,rfl,rfl,H6⟩:=hrel
   clear HC
   by_cases hlt:k<L.length
   ·have HSU:=Lh (cnt_succ (p:=f1) hlt)
    have hcl:=Nat.le_trans (cnt_le f1 L k) HN1.out
    obtain ⟨b,o,rfl,hbl,x0,x1,x2,x3,x4,x5,x6⟩:=H6.out.ls.at_ hlt
    have HFX:=Lh (HF1.out L[k])
    generalize hmm:(L.take (k+1)).countP f1=m' at*
    have HMM:=Lh hmm
    clear hmm
    generalize (L.take k).countP f1=m at*
    generalize L[k]=X at*
    have hw:IntKind.i64.wrap ((m:Int)+1)=(m:Int)+1:=IntWalk.i64_in _ (by omega)
    have HP:=Lh (HPU.out X)
    have HS:=Lh (HSP.out X)
    have HPA:=Lh (H6.out.below ((Below.refl _ _).alloc (nLR _) (.cells #[.int .i64 X.id,.int .i64 X.rt,.int .i64 X.ep,.int .i64 X.ct,.int .i64 X.gn,.int .i64 X.st,.string X.bd] 79)))
    have HMX:=Lh (MBx.start wr X 79)
    cases hp:puF X ep with
    | true=>
     rw [hp] at HP
     have HM:=Lh (show m' = m by rw [HSU.out,HFX.out,hp];simp)
     clear hp
     go_wp2_with fail
     refine (HP.out _).mono ?_
     rintro e w6 ⟨rfl,hb⟩
     have H7:=Lh (HPA.out.below hb)
     clear hb x0 x1 x2 x3 x4 x5 x6 hbl
     go_wp2
     go_roundw
     case rel=>exact ⟨k+1,by omega,by go_num,by rw [HMM.out,HM.out],H7⟩
     case measure=>simp [intOf];omega
    | false=>
     rw [hp] at HP
     go_wp2_with fail
     refine (HP.out _).mono ?_
     rintro e w6 ⟨rfl,hb⟩
     have H7:=Lh (HPA.out.below hb)
     have HM7:=Lh (HMX.out.up hb)
     clear hb x0 x1 x2 x3 x4 x5 x6 hbl
     obtain ⟨⟨x0,x1,x2,x3,x4,x5,x6⟩,-,hbl⟩:=HM7.out
     generalize wr.heap.size=q at*
     cases hq:spF X lim with
     | true=>
      rw [hq] at HS
      have HM:=Lh (show m' = m by rw [HSU.out,HFX.out,hp,hq];simp)
      clear hp hq
      go_wp2_with fail
      refine (HS.out _).mono ?_
      rintro e w7 ⟨rfl,hb⟩
      have H8:=Lh (H7.out.below hb)
      clear hb x0 x1 x2 x3 x4 x5 x6 hbl
      go_wp2
      go_roundw
      case rel=>exact ⟨k+1,by omega,by go_num,by rw [HMM.out,HM.out],H8⟩
      case measure=>simp [intOf];omega
     | false=>
      rw [hq] at HS
      have HM:=Lh (show m' = m+1 by rw [HSU.out,HFX.out,hp,hq];simp)
      clear hp hq
      go_wp2_with fail
      refine (HS.out _).mono ?_
      rintro e w7 ⟨rfl,hb⟩
      have H8:=Lh (H7.out.below hb)
      clear hb x0 x1 x2 x3 x4 x5 x6 hbl
      go_wp2
      go_roundw
      case rel=>exact ⟨k+1,by omega,by go_num,by rw [HMM.out,HM.out];go_num,H8⟩
      case measure=>simp [intOf];omega
   ·obtain rfl:k=L.length:=by omega
    rw [<-HT1.out]
    generalize L.countP f1=m1 at*
    have HE:=Lh H6.out.sa.sr.el
    obtain ⟨t0,t1,t2,t3,t4,t5,t6,t7,tl⟩:=H6.out.sa.s8.facts
    generalize D.A2=A2 at*
    generalize D.c2=c2 at*
    go_wp2
    clear t0 t1 t2 t3 t4 t5 t6 t7 tl HSP HF1
    have HQ:=Lh (And.intro H6.out.sa HE.out)
    have hl2:S.l.length<=9223372036854775807:=by have:=HN2.out;omega
    have HT2:=Lh (show (S.l.map Le.m).countP f2=((S.l.map Le.m).take S.l.length).countP f2 by rw [show S.l.length=(S.l.map Le.m).length by simp,List.take_length])
    go_loopw [7,45] (fun n i wr=>∃ k:Nat,k<=S.l.length/\i=.int .i64 k/\n=.int .i64 ((((S.l.map Le.m).take k).countP f2:Nat):Int)/\Hid (SAt w p S D wr/\El wr wr.heap.size (.slice A2 S.l.length c2) S.l)) (fun _ i _=>S.l.length - (intOf i).toNat)
    case atStart=>exact ⟨0,Nat.zero_le _,rfl,rfl,HQ⟩
    case round=>
     clear H6 HE HQ
     obtain ⟨k,hk',rfl,rfl,H6⟩:=hrel
     by_cases hlt' : k<S.l.length
     ·have hlm:k<(S.l.map Le.m).length:=by simpa using hlt'
      have HSU:=Lh (cnt_succ (p:=f2) hlm)
      have hcl:((S.l.map Le.m).take k).countP f2<=1000:=Nat.le_trans (cnt_le f2 _ k) (by simpa using HN2.out)
      obtain ⟨b,o,rfl,hbl,x0,x1,x2,x3,x4,x5,x6,x7⟩:=H6.out.2.at_ hlt'
      have HFX:=Lh (HF2.out S.l[k].m)
      have HGM:=Lh (show (S.l.map Le.m)[k]'hlm=S.l[k].m by simp)
      generalize hmm:((S.l.map Le.m).take (k+1)).countP f2=m' at*
      have HMM:=Lh hmm
      clear hmm
      generalize ((S.l.map Le.m).take k).countP f2=m at*
      generalize (S.l.map Le.m)[k]'hlm=Y at*
      generalize S.l[k]=X at*
      have hw:IntKind.i64.wrap ((m:Int)+1)=(m:Int)+1:=IntWalk.i64_in _ (by omega)
      have HP:=Lh (HPU.out X.m)
      have HBA:=Lh ((Below.refl wr.heap.size wr).alloc (nLR _) (.cells #[.int .i64 X.m.id,.int .i64 X.m.rt,.int .i64 X.m.ep,.int .i64 X.m.ct,.int .i64 X.m.gn,.int .i64 X.m.st,.string X.m.bd,.int .i64 X.dl] 152))
      cases hp:puF X.m ep with
      | true=>
       rw [hp] at HP
       have HM:=Lh (show m' = m by rw [HSU.out,HGM.out,HFX.out,hp];simp)
       clear hp
       go_wp2_with fail
       refine (HP.out _).mono ?_
       rintro e w6 ⟨rfl,hb⟩
       have HBB:=HBA.out.trans (hb.mono HBA.out.size)
       have H7:=Lh (And.intro (H6.out.1.below HBB) ((H6.out.2.below HBB).more HBB.size))
       clear hb x0 x1 x2 x3 x4 x5 x6 x7 hbl HBB
       go_wp2
       go_roundw
       case rel=>exact ⟨k+1,by omega,by go_num,by rw [HMM.out,HM.out],H7⟩
       case measure=>simp [intOf];omega
      | false=>
       rw [hp] at HP
       have HM:=Lh (show m' = m+1 by rw [HSU.out,HGM.out,HFX.out,hp];simp)
       clear hp
       go_wp2_with fail
       refine (HP.out _).mono ?_
       rintro e w6 ⟨rfl,hb⟩
       have HBB:=HBA.out.trans (hb.mono HBA.out.size)
       have H7:=Lh (And.intro (H6.out.1.below HBB) ((H6.out.2.below HBB).more HBB.size))
       clear hb x0 x1 x2 x3 x4 x5 x6 x7 hbl HBB
       go_wp2
       go_roundw
       case rel=>exact ⟨k+1,by omega,by go_num,by rw [HMM.out,HM.out];go_num,H7⟩
       case measure=>simp [intOf];omega
     ·obtain rfl:k=S.l.length:=by omega
      rw [<-HT2.out]
      generalize (S.l.map Le.m).countP f2=m2 at*
      go_wp2
      exact bodyPost_ret (v:=.tuple #[.int .i64 m1,.int .i64 m2]) (by simp only [results,Tryz.results125];go_simp <;> rfl) rfl ⟨by rw [HX.out.1,HX.out.2],H6.out.1.bel⟩
 ·have HX:=Lh (ct_no (S:=S) (ep:=ep) (lim:=lim) (by unfold ctB;exact decide_eq_false h1))
  have hne:(exS S (wi ep 0 65536&&wi lim 1 8) != 0)=true:=bne_iff_ne.2 h1
  clear h1
  generalize exS S (wi ep 0 65536&&wi lim 1 8)=x at*
  go_wp2
  exact bodyPost_ret (v:=.tuple #[.int .i64 0,.int .i64 0]) (by simp only [results,Tryz.results125];go_simp <;> rfl) rfl ⟨by rw [HX.out.1,HX.out.2],HA4.out.bel⟩
noncomputable def enE (s:St) (S:Sh) (ep lim:Int):Int:=if ¬nbP s.sq then 1 else if s.sq % 2=0 then 7 else if shV S≠0 then shV S else if (wi ep 0 65536&&wi lim 1 8)=true then 0 else 1
noncomputable def enT (s:St) (S:Sh) (ep lim:Int):St:=if enE s S ep lim=0 then ⟨s.sq+1,ep,ctR S ep lim,ctL S ep lim⟩ else zSt
section
variable {s:St} {S:Sh} {ep lim:Int}
theorem en_no {x:Int} (h:enE s S ep lim=x) (hx:x≠0):enT s S ep lim=zSt:=by unfold enT;rw [if_neg (by rw [h];exact hx)]
theorem enE_1 (h:¬nbP s.sq):enE s S ep lim=1:=if_pos h
theorem enE_7 (h:nbP s.sq) (h1:s.sq % 2=0):enE s S ep lim=7:=by unfold enE;rw [if_neg (fun g=>g h),if_pos h1]
theorem enE_v (h:nbP s.sq) (h1:¬s.sq % 2=0) (h2:shV S≠0):enE s S ep lim=shV S:=by unfold enE;rw [if_neg (fun g=>g h),if_neg h1,if_pos h2]
theorem enE_n (h:nbP s.sq) (h1:¬s.sq % 2=0) (h2:shV S=0) (h3:(wi ep 0 65536&&wi lim 1 8)=false):enE s S ep lim=1:=by unfold enE;rw [if_neg (fun g=>g h),if_neg h1,if_neg (fun g=>g h2),h3];rfl
theorem enE_0 (h:nbP s.sq) (h1:¬s.sq % 2=0) (h2:shV S=0) (h3:wi ep 0 65536=true) (h4:wi lim 1 8=true):enE s S ep lim=0:=by unfold enE;rw [if_neg (fun g=>g h),if_neg h1,if_neg (fun g=>g h2),h3,h4];rfl
end
structure YB (w:World) (p q:Nat) (s:St) (S:Sh) (D:Sx) (W:World):Prop where
 sa:SAt w q S D W
 c0:W.cell? ⟨p,0,none⟩=some (.int .i64 s.sq)
 c1:W.cell? ⟨p,1,none⟩=some (.int .i64 s.ep)
 c2:W.cell? ⟨p,2,none⟩=some (.int .i64 s.rd)
 c3:W.cell? ⟨p,3,none⟩=some (.int .i64 s.ls)
 lt:p<W.heap.size
section
variable {w W W' : World} {p q:Nat} {s:St} {S:Sh} {D:Sx}
theorem YB.below (h:YB w p q s S D W) (hb:Below W.heap.size W W'):YB w p q s S D W':=
 ⟨h.sa.below hb,(hb.cell (p:=⟨p,0,none⟩) h.lt).trans h.c0,(hb.cell (p:=⟨p,1,none⟩) h.lt).trans h.c1,(hb.cell (p:=⟨p,2,none⟩) h.lt).trans h.c2,(hb.cell (p:=⟨p,3,none⟩) h.lt).trans h.c3,Nat.lt_of_lt_of_le h.lt hb.size⟩
theorem YB.start (s:St) (h:SR w w.heap.size S D) (t u:TypeId):YB w w.heap.size (w.heap.size+1) s S D ((w.alloc (.cells #[.int .i64 s.sq,.int .i64 s.ep,.int .i64 s.rd,.int .i64 s.ls] t)).alloc (.cells #[.bool S.lv,.int .i64 S.lo,.int .i64 S.hi,.slice D.A S.cs.length D.c,.int .i64 S.hd,.int .i64 S.sz,.slice D.A2 S.l.length D.c2,.slice D.A3 S.h.length D.c3] u)):=by
 have hb:=(Below.refl w.heap.size w).alloc (nLR _) (.cells #[.int .i64 s.sq,.int .i64 s.ep,.int .i64 s.rd,.int .i64 s.ls] t)
 have k:=SAt.start u (h.up hb)
 have e:(w.alloc (.cells #[.int .i64 s.sq,.int .i64 s.ep,.int .i64 s.rd,.int .i64 s.ls] t)).heap.size=w.heap.size+1:=by simp
 rw [e] at k
 refine ⟨⟨k.s8,k.sr,k.off,hb.trans (k.bel.mono (by rw [e];omega)),by omega⟩,by simp [go_sem],by simp [go_sem],by simp [go_sem],by simp [go_sem],by simp;omega⟩
theorem YB.all (h:YB w p q s S D W):(W.cell? ⟨p,0,none⟩=some (.int .i64 s.sq)/\W.cell? ⟨p,1,none⟩=some (.int .i64 s.ep)/\W.cell? ⟨p,2,none⟩=some (.int .i64 s.rd)/\W.cell? ⟨p,3,none⟩=some (.int .i64 s.ls)/\p<W.heap.size)/\(W.cell? ⟨q,0,none⟩=some (.bool S.lv)/\W.cell? ⟨q,1,none⟩=some (.int .i64 S.lo)/\W.cell? ⟨q,2,none⟩=some (.int .i64 S.hi)/\W.cell? ⟨q,3,none⟩=some (.slice D.A S.cs.length D.c)/\W.cell? ⟨q,4,none⟩=some (.int .i64 S.hd)/\W.cell? ⟨q,5,none⟩=some (.int .i64 S.sz)/\W.cell? ⟨q,6,none⟩=some (.slice D.A2 S.l.length D.c2)/\W.cell? ⟨q,7,none⟩=some (.slice D.A3 S.h.length D.c3)/\q<W.heap.size):=⟨⟨h.c0,h.c1,h.c2,h.c3,h.lt⟩,h.sa.s8.facts⟩
end
theorem yenderr_any (s:St) (S:Sh) (D:Sx) (ep lim:Int) (w:World) (hs:SR w w.heap.size S D) :
  Calls Tryz.prog 124 #[s.v,sv S D,.int .i64 ep,.int .i64 lim] w fun e w'=>e=.returned (.int .i64 (enE s S ep lim))/\Below w.heap.size w w':=by
 have H0:=Lh (YB.start s hs 63 72)
 have HV:=Lh (fun p q W (k:YB w p q s S D W)=>svalid_any S D W k.sa.sr)
 have HN:=Lh (fun W=>ynumber_any s.sq W)
 have HO:=Lh (fun W=>yodd_any s.sq W)
 have HE:=Lh (fun W=>ywithin_any ep 0 65536 W)
 have HL:=Lh (fun W=>ywithin_any lim 1 8 W)
 obtain ⟨p,hp⟩:∃ p,p=w.heap.size:=⟨_,rfl⟩
 obtain ⟨q,hq⟩:∃ q,q=w.heap.size+1:=⟨_,rfl⟩
 obtain ⟨R,hR⟩:∃ R,R=enE s S ep lim:=⟨_,rfl⟩
 rw [<-hR]
 have HRR:=Lh hR
 have HPP:=Lh (And.intro hp hq)
 clear hs hR hp hq
 go_enter Tryz.func124,Tryz.ntmps124
 obtain ⟨⟨x0,x1,x2,x3,xl⟩,y0,y1,y2,y3,y4,y5,y6,y7,yl⟩:=H0.out.all
 go_wp2_with fail
 clear x0 x1 x2 x3 xl y0 y1 y2 y3 y4 y5 y6 y7 yl
 rw [<-HPP.out.2,<-HPP.out.1] at H0
 generalize (w.alloc (.cells #[.int .i64 s.sq,.int .i64 s.ep,.int .i64 s.rd,.int .i64 s.ls] 63)).alloc (.cells #[.bool S.lv,.int .i64 S.lo,.int .i64 S.hi,.slice D.A S.cs.length D.c,.int .i64 S.hd,.int .i64 S.sz,.slice D.A2 S.l.length D.c2,.slice D.A3 S.h.length D.c3] 72)=w2 at*
 rw [<-HPP.out.2,<-HPP.out.1]
 by_cases h1:nbP s.sq
 ·rw [nbB_yes h1] at HN
  refine (HN.out _).mono ?_
  rintro e w3 ⟨rfl,rfl⟩
  clear HN
  obtain ⟨⟨x0,x1,x2,x3,xl⟩,y0,y1,y2,y3,y4,y5,y6,y7,yl⟩:=H0.out.all
  by_cases h2:s.sq % 2=0
  ·rw [evB_yes h2] at HO
   have HX:=Lh (enE_7 (S:=S) (ep:=ep) (lim:=lim) h1 h2)
   clear h1 h2
   go_wp2_with fail
   refine (HO.out _).mono ?_
   rintro e w4 ⟨rfl,rfl⟩
   go_wp2
   go_ret
   exact ⟨by rw [HRR.out,HX.out];rfl,H0.out.sa.bel⟩
  ·rw [evB_no h2] at HO
   have HXV:=Lh (enE_v (S:=S) (ep:=ep) (lim:=lim) h1 h2)
   have HXN:=Lh (enE_n (S:=S) (ep:=ep) (lim:=lim) h1 h2)
   have HX0:=Lh (enE_0 (S:=S) (ep:=ep) (lim:=lim) h1 h2)
   clear h1 h2
   go_wp2_with fail
   refine (HO.out _).mono ?_
   rintro e w4 ⟨rfl,rfl⟩
   go_wp2_with fail
   clear x0 x1 x2 x3 xl y0 y1 y2 y3 y4 y5 y6 y7 yl
   refine (HV.out _ _ _ H0.out).mono ?_
   rintro e w4 ⟨rfl,hb⟩
   have H1:=Lh (H0.out.below hb)
   clear hb HV H0 HO
   by_cases h3:shV S=0
   ·rw [h3]
    have h3' : (shV S != 0)=false:=by simpa using h3
    cases h4:wi ep 0 65536 with
    | false=>
     have HX:=Lh (HXN.out h3 (by rw [h4];rfl))
     rw [h4] at HE
     clear h3 h3' h4
     go_wp2_with fail
     refine (HE.out _).mono ?_
     rintro e w5 ⟨rfl,rfl⟩
     go_wp2
     go_ret
     exact ⟨by rw [HRR.out,HX.out];rfl,H1.out.sa.bel⟩
    | true=>
     rw [h4] at HE
     cases h5:wi lim 1 8 with
     | false=>
      have HX:=Lh (HXN.out h3 (by rw [h4,h5];rfl))
      rw [h5] at HL
      clear h3 h3' h4 h5
      go_wp2_with fail
      refine (HE.out _).mono ?_
      rintro e w5 ⟨rfl,rfl⟩
      go_wp2_with fail
      refine (HL.out _).mono ?_
      rintro e w6 ⟨rfl,rfl⟩
      go_wp2
      go_ret
      exact ⟨by rw [HRR.out,HX.out];rfl,H1.out.sa.bel⟩
     | true=>
      have HX:=Lh (HX0.out h3 h4 h5)
      rw [h5] at HL
      clear h3 h3' h4 h5
      go_wp2_with fail
      refine (HE.out _).mono ?_
      rintro e w5 ⟨rfl,rfl⟩
      go_wp2_with fail
      refine (HL.out _).mono ?_
      rintro e w6 ⟨rfl,rfl⟩
      go_wp2
      go_ret
      exact ⟨by rw [HRR.out,HX.out];rfl,H1.out.sa.bel⟩
   ·have HX:=Lh (HXV.out h3)
    have h3' : (shV S != 0)=true:=bne_iff_ne.2 h3
    clear h3
    generalize shV S=v at*
    go_wp2
    go_ret
    exact ⟨by rw [HRR.out,HX.out];rfl,H1.out.sa.bel⟩
 ·rw [nbB_no h1] at HN
  have HX:=Lh (enE_1 (S:=S) (ep:=ep) (lim:=lim) h1)
  clear h1
  refine (HN.out _).mono ?_
  rintro e w3 ⟨rfl,rfl⟩
  go_wp2
  go_ret
  exact ⟨by rw [HRR.out,HX.out];rfl,H0.out.sa.bel⟩
theorem ybegin_any (s:St) (w:World):Calls Tryz.prog 112 #[s.v] w (StE w (bgT s) (bgE s)):=by
 have HN:=Lh (fun W=>ynumber_any s.sq W)
 have HO:=Lh (fun W=>yodd_any s.sq W)
 by_cases h1:nbP s.sq
 ·rw [nbB_yes h1] at HN
  by_cases h2:s.sq % 2=0
  ·rw [evB_yes h2] at HO
   by_cases h3:1099511627774<s.sq
   ·have HR:=Lh (bg_6 h1 (by omega) h3)
    clear h1 h2
    go_enter Tryz.func112,Tryz.ntmps112
    go_wp2_with fail
    refine (HN.out _).mono ?_
    rintro e w3 ⟨rfl,rfl⟩
    go_wp2_with fail
    refine (HO.out _).mono ?_
    rintro e w4 ⟨rfl,rfl⟩
    go_wp2
    exact bodyPost_ret (v:=.tuple #[zSt.v,.int .i64 6]) (by simp only [results,Tryz.results112];go_simp <;> rfl) rfl ⟨by rw [HR.out.1,HR.out.2],below2 w _ _⟩
   ·have HR:=Lh (bg_0 h1 (by omega) h3)
    have hw:IntKind.i64.wrap (s.sq+1)=s.sq+1:=IntWalk.i64_in _ (by have:=h1.1;omega)
    have hw2:wrap64 (s.sq+1)=s.sq+1:=IntWalk.wrap64_in _ (by have:=h1.1;omega)
    clear h1 h2
    go_enter Tryz.func112,Tryz.ntmps112
    go_wp2_with fail
    refine (HN.out _).mono ?_
    rintro e w3 ⟨rfl,rfl⟩
    go_wp2_with fail
    refine (HO.out _).mono ?_
    rintro e w4 ⟨rfl,rfl⟩
    go_wp2
    exact bodyPost_ret (v:=.tuple #[.agg #[.int .i64 (s.sq+1),.int .i64 s.ep,.int .i64 s.rd,.int .i64 s.ls],.int .i64 0]) (by simp only [results,Tryz.results112];go_simp <;> rfl) rfl ⟨by rw [HR.out.1,HR.out.2],below2 w _ _⟩
  ·rw [evB_no h2] at HO
   have HR:=Lh (bg_7 h1 (by omega))
   clear h1 h2
   go_enter Tryz.func112,Tryz.ntmps112
   go_wp2_with fail
   refine (HN.out _).mono ?_
   rintro e w3 ⟨rfl,rfl⟩
   go_wp2_with fail
   refine (HO.out _).mono ?_
   rintro e w4 ⟨rfl,rfl⟩
   go_wp2
   exact bodyPost_ret (v:=.tuple #[zSt.v,.int .i64 7]) (by simp only [results,Tryz.results112];go_simp <;> rfl) rfl ⟨by rw [HR.out.1,HR.out.2],below2 w _ _⟩
 ·rw [nbB_no h1] at HN
  have HR:=Lh (bg_1 h1)
  clear h1
  go_enter Tryz.func112,Tryz.ntmps112
  go_wp2_with fail
  refine (HN.out _).mono ?_
  rintro e w3 ⟨rfl,rfl⟩
  go_wp2
  exact bodyPost_ret (v:=.tuple #[zSt.v,.int .i64 1]) (by simp only [results,Tryz.results112];go_simp <;> rfl) rfl ⟨by rw [HR.out.1,HR.out.2],below2 w _ _⟩
structure YC (w:World) (p q r:Nat) (s:St) (S:Sh) (D:Sx) (W:World):Prop where
 yb:YB w p q s S D W
 r0:W.cell? ⟨r,0,none⟩=some (.int .i64 0)
 r1:W.cell? ⟨r,1,none⟩=some (.int .i64 0)
 r2:W.cell? ⟨r,2,none⟩=some (.int .i64 0)
 r3:W.cell? ⟨r,3,none⟩=some (.int .i64 0)
 fr:∀ o,W.frozen? ⟨r,o,none⟩=false
 lt:r<W.heap.size
 old:w.heap.size<=r
section
variable {w W W' : World} {p q r:Nat} {s:St} {S:Sh} {D:Sx}
theorem YC.below (h:YC w p q r s S D W) (hb:Below W.heap.size W W'):YC w p q r s S D W':=
 ⟨h.yb.below hb,(hb.cell (p:=⟨r,0,none⟩) h.lt).trans h.r0,(hb.cell (p:=⟨r,1,none⟩) h.lt).trans h.r1,(hb.cell (p:=⟨r,2,none⟩) h.lt).trans h.r2,(hb.cell (p:=⟨r,3,none⟩) h.lt).trans h.r3,fun o=>(hb.frozen (p:=⟨r,o,none⟩) h.lt).trans (h.fr o),Nat.lt_of_lt_of_le h.lt hb.size,h.old⟩
theorem YC.start (s:St) (h:SR w w.heap.size S D) (t u:TypeId):YC w w.heap.size (w.heap.size+1) (w.heap.size+1+1) s S D (((w.alloc (.cells #[.int .i64 s.sq,.int .i64 s.ep,.int .i64 s.rd,.int .i64 s.ls] t)).alloc (.cells #[.bool S.lv,.int .i64 S.lo,.int .i64 S.hi,.slice D.A S.cs.length D.c,.int .i64 S.hd,.int .i64 S.sz,.slice D.A2 S.l.length D.c2,.slice D.A3 S.h.length D.c3] u)).alloc (.cells #[.int .i64 0,.int .i64 0,.int .i64 0,.int .i64 0] t)):=by
 have k:=(YB.start s h t u)
 exact ⟨k.below ((Below.refl _ _).alloc (nLR _) _),by simp [go_sem],by simp [go_sem],by simp [go_sem],by simp [go_sem],fun o=>by simp [go_sem],by simp,by omega⟩
theorem YC.all (h:YC w p q r s S D W):((W.cell? ⟨p,0,none⟩=some (.int .i64 s.sq)/\W.cell? ⟨p,1,none⟩=some (.int .i64 s.ep)/\W.cell? ⟨p,2,none⟩=some (.int .i64 s.rd)/\W.cell? ⟨p,3,none⟩=some (.int .i64 s.ls)/\p<W.heap.size)/\(W.cell? ⟨q,0,none⟩=some (.bool S.lv)/\W.cell? ⟨q,1,none⟩=some (.int .i64 S.lo)/\W.cell? ⟨q,2,none⟩=some (.int .i64 S.hi)/\W.cell? ⟨q,3,none⟩=some (.slice D.A S.cs.length D.c)/\W.cell? ⟨q,4,none⟩=some (.int .i64 S.hd)/\W.cell? ⟨q,5,none⟩=some (.int .i64 S.sz)/\W.cell? ⟨q,6,none⟩=some (.slice D.A2 S.l.length D.c2)/\W.cell? ⟨q,7,none⟩=some (.slice D.A3 S.h.length D.c3)/\q<W.heap.size))/\W.cell? ⟨r,0,none⟩=some (.int .i64 0)/\W.cell? ⟨r,1,none⟩=some (.int .i64 0)/\W.cell? ⟨r,2,none⟩=some (.int .i64 0)/\W.cell? ⟨r,3,none⟩=some (.int .i64 0)/\r<W.heap.size/\W.frozen? ⟨r,0,none⟩=false/\W.frozen? ⟨r,1,none⟩=false/\W.frozen? ⟨r,2,none⟩=false/\W.frozen? ⟨r,3,none⟩=false:=⟨h.yb.all,h.r0,h.r1,h.r2,h.r3,h.lt,h.fr 0,h.fr 1,h.fr 2,h.fr 3⟩
theorem YC.out (h:YC w p q r s S D W) (a b c d:Value):Below w.heap.size w ((((W.setCell ⟨r,0,none⟩ a).setCell ⟨r,1,none⟩ b).setCell ⟨r,2,none⟩ c).setCell ⟨r,3,none⟩ d):=below4 h.yb.sa.bel h.old a b c d
end
theorem yend_any (s:St) (S:Sh) (D:Sx) (ep lim:Int) (w:World) (hs:SR w w.heap.size S D) :
  Calls Tryz.prog 94 #[s.v,sv S D,.int .i64 ep,.int .i64 lim] w (StE w (enT s S ep lim) (enE s S ep lim)):=by
 have H0:=Lh (YC.start s hs 63 72)
 have HV:=Lh (fun p q r W (k:YC w p q r s S D W)=>yenderr_any s S D ep lim W k.yb.sa.sr)
 have HC:=Lh (fun p q r W (k:YC w p q r s S D W)=>scounts_any S D ep lim W k.yb.sa.sr)
 obtain ⟨p,hp⟩:∃ p,p=w.heap.size:=⟨_,rfl⟩
 obtain ⟨q,hq⟩:∃ q,q=w.heap.size+1:=⟨_,rfl⟩
 obtain ⟨r,hr⟩:∃ r,r=w.heap.size+1+1:=⟨_,rfl⟩
 obtain ⟨R,hR⟩:∃ R,R=enE s S ep lim:=⟨_,rfl⟩
 obtain ⟨T,hT⟩:∃ T,T=enT s S ep lim:=⟨_,rfl⟩
 rw [<-hR,<-hT]
 have HRR:=Lh (And.intro hR hT)
 have HPP:=Lh (And.intro hp (And.intro hq hr))
 have HNE:=Lh (show ¬p=q/\¬q=p/\¬p=r/\¬r=p/\¬q=r/\¬r=q by omega)
 clear hs hR hT hp hq hr
 go_enter Tryz.func94,Tryz.ntmps94
 obtain ⟨⟨⟨x0,x1,x2,x3,xl⟩,y0,y1,y2,y3,y4,y5,y6,y7,yl⟩,z0,z1,z2,z3,zl,f0,f1,f2,f3⟩:=H0.out.all
 go_wp2_with fail
 clear x0 x1 x2 x3 xl y0 y1 y2 y3 y4 y5 y6 y7 yl z0 z1 z2 z3 zl f0 f1 f2 f3
 rw [<-HPP.out.2.2,<-HPP.out.2.1,<-HPP.out.1] at H0
 generalize ((w.alloc (.cells #[.int .i64 s.sq,.int .i64 s.ep,.int .i64 s.rd,.int .i64 s.ls] 63)).alloc (.cells #[.bool S.lv,.int .i64 S.lo,.int .i64 S.hi,.slice D.A S.cs.length D.c,.int .i64 S.hd,.int .i64 S.sz,.slice D.A2 S.l.length D.c2,.slice D.A3 S.h.length D.c3] 72)).alloc (.cells #[.int .i64 0,.int .i64 0,.int .i64 0,.int .i64 0] 63)=w2 at*
 rw [<-HPP.out.2.2,<-HPP.out.2.1,<-HPP.out.1]
 refine (HV.out _ _ _ _ H0.out).mono ?_
 rintro e w3 ⟨rfl,hb⟩
 have H1:=Lh (H0.out.below hb)
 clear hb H0 HV
 obtain ⟨⟨⟨x0,x1,x2,x3,xl⟩,y0,y1,y2,y3,y4,y5,y6,y7,yl⟩,z0,z1,z2,z3,zl,f0,f1,f2,f3⟩:=H1.out.all
 by_cases h0:enE s S ep lim=0
 ·have HT:=Lh (show T=⟨s.sq+1,ep,ctR S ep lim,ctL S ep lim⟩ from by rw [HRR.out.2];unfold enT;rw [if_pos h0])
  have HX:=Lh (show R=0 from by rw [HRR.out.1];exact h0)
  have HNB:=Lh (show nbP s.sq from by
   apply Classical.byContradiction
   intro h
   rw [enE_1 h] at h0
   exact absurd h0 (by decide))
  have hw:IntKind.i64.wrap (s.sq+1)=s.sq+1:=IntWalk.i64_in _ (by have:=HNB.out.1;have:=HNB.out.2;omega)
  have hw2:wrap64 (s.sq+1)=s.sq+1:=IntWalk.wrap64_in _ (by have:=HNB.out.1;have:=HNB.out.2;omega)
  rw [h0]
  clear h0
  generalize ctR S ep lim=cr at*
  generalize ctL S ep lim=cl at*
  go_wp2_with fail
  clear x0 x1 x2 x3 xl y0 y1 y2 y3 y4 y5 y6 y7 yl z0 z1 z2 z3 zl f0 f1 f2 f3
  refine (HC.out _ _ _ _ H1.out).mono ?_
  rintro e w4 ⟨rfl,hb⟩
  have H2:=Lh (H1.out.below hb)
  clear hb H1 HC
  obtain ⟨⟨⟨x0,x1,x2,x3,xl⟩,y0,y1,y2,y3,y4,y5,y6,y7,yl⟩,z0,z1,z2,z3,zl,f0,f1,f2,f3⟩:=H2.out.all
  obtain ⟨n1,n2,n3,n4,n5,n6⟩:=HNE.out
  go_wp2
  exact bodyPost_ret (v:=.tuple #[.agg #[.int .i64 (s.sq+1),.int .i64 ep,.int .i64 cr,.int .i64 cl],.int .i64 0]) (by simp only [results,Tryz.results94];go_simp <;> rfl) rfl ⟨by rw [HT.out,HX.out],H2.out.out _ _ _ _⟩
 ·have HT:=Lh (show T=zSt from by rw [HRR.out.2];exact en_no rfl h0)
  have h0' : (enE s S ep lim != 0)=true:=bne_iff_ne.2 h0
  clear h0
  have HX:=HRR
  generalize enE s S ep lim=x at*
  obtain ⟨n1,n2,n3,n4,n5,n6⟩:=HNE.out
  go_wp2
  exact bodyPost_ret (v:=.tuple #[zSt.v,.int .i64 x]) (by simp only [results,Tryz.results94];go_simp <;> rfl) rfl ⟨by rw [HT.out,HX.out.1],H1.out.out _ _ _ _⟩
def YT (W:World) (r:Nat) (T:St):Prop:=(W.cell? ⟨r,0,none⟩=some (.int .i64 T.sq)/\W.cell? ⟨r,1,none⟩=some (.int .i64 T.ep)/\W.cell? ⟨r,2,none⟩=some (.int .i64 T.rd)/\W.cell? ⟨r,3,none⟩=some (.int .i64 T.ls))/\r<W.heap.size
theorem YT.up {W W' : World} {r:Nat} {T:St} (h:YT W r T) (hb:Below W.heap.size W W'):YT W' r T:=
 ⟨⟨(hb.cell (p:=⟨r,0,none⟩) h.2).trans h.1.1,(hb.cell (p:=⟨r,1,none⟩) h.2).trans h.1.2.1,(hb.cell (p:=⟨r,2,none⟩) h.2).trans h.1.2.2.1,(hb.cell (p:=⟨r,3,none⟩) h.2).trans h.1.2.2.2⟩,Nat.lt_of_lt_of_le h.2 hb.size⟩
theorem YT.start (w:World) (T:St) (t:TypeId):YT (w.alloc (.cells #[.int .i64 T.sq,.int .i64 T.ep,.int .i64 T.rd,.int .i64 T.ls] t)) w.heap.size T:=
 ⟨⟨by simp [go_sem],by simp [go_sem],by simp [go_sem],by simp [go_sem]⟩,by simp⟩
abbrev NkK (p q b:Nat) (S:Sh) (D:Sx) (H:Hn) (lim:Int) (W:World):Prop:=K8 p S D W/\W.cell? ⟨q,0,none⟩=some (.int .i64 H.id)/\W.cell? ⟨q,1,none⟩=some (.int .i64 H.gn)/\W.cell? ⟨q,2,none⟩=some (.int .i64 H.rt)/\W.cell? ⟨q,3,none⟩=some (.int .i64 H.ht)/\W.cell? ⟨b,0,none⟩=some (.int .i64 lim)
end Go.Proofs.YtkecnihgjepfeaaGreat
