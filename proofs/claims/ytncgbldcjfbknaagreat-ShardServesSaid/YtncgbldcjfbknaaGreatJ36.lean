/- What is proved here: shardqueueref07.span and Validate by contracts; ref07.Live, Stored, Owns and shard.Owns by contracts; shardqueueref06.Find by a contract; ref07.Holds and held by contracts; ref07.held by a contract. -/
import Derived.Test.YtncgbldcjfbknaaGreatJ35
namespace Go.Proofs.YtncgbldcjfbknaaGreat
open Go.RowKit
set_option linter.unusedVariables false
set_option maxHeartbeats 2000000 in
theorem rspan7_any (lo hi:Int) (w:World):Calls Tryz.prog 62 #[.int .i64 lo,.int .i64 hi] w fun e w'=>e=.returned (.bool (spB lo hi))∧w' = w:=by
 have HB:∀ b,(spB lo hi=true↔b=true)→Hid (spB lo hi=b):=fun b h=>Lh (by cases h1:spB lo hi <;> cases b <;> simp_all)
 by_cases h1:0≤lo
 ·by_cases h2:lo≤hi
  ·by_cases h3:hi<65536
   ·have HX:=HB true (by rw [spB_iff];simp;omega)
    go_enter Tryz.func62,Tryz.ntmps62
    go_wp2
    go_ret
    exact ⟨by rw [HX.out];rfl,rfl⟩
   ·have HX:=HB false (by rw [spB_iff];simp;omega)
    go_enter Tryz.func62,Tryz.ntmps62
    go_wp2
    go_ret
    exact ⟨by rw [HX.out];rfl,rfl⟩
  ·have HX:=HB false (by rw [spB_iff];simp;omega)
   go_enter Tryz.func62,Tryz.ntmps62
   go_wp2
   go_ret
   exact ⟨by rw [HX.out];rfl,rfl⟩
 ·have HX:=HB false (by rw [spB_iff];simp;omega)
  go_enter Tryz.func62,Tryz.ntmps62
  go_wp2
  go_ret
  exact ⟨by rw [HX.out];rfl,rfl⟩
structure VaAt (w:World) (p:Nat) (S:Sh) (D:Sx) (v:Value) (L:List Msg) (W:World):Prop where
 sa:SAt w p S D W
 ls:Ls W W.heap.size v L
theorem VaAt.below {w W W' : World} {p:Nat} {S:Sh} {D:Sx} {v:Value} {L:List Msg} (h:VaAt w p S D v L W) (hb:Below W.heap.size W W'):VaAt w p S D v L W':=⟨h.sa.below hb,h.ls.upz hb⟩
theorem below_dn (w:World) (n:Nat):Below w.heap.size w (w.drewN n):=⟨rfl,rfl,rfl,Nat.le_refl _,fun _ _=>rfl⟩
theorem rtB_yes {lo hi:Int} {l:List Msg} {k:Nat} (hk:k<l.length) (h:l[k].rt<lo∨hi<l[k].rt):rtB lo hi l=true:=by
 cases h0:rtB lo hi l with
 | true=>rfl
 | false=>have:=rtB_no.1 h0 _ (List.getElem_mem hk);omega
theorem rtB_get {lo hi:Int} {l:List Msg} (h:∀ k (hk:k<l.length),lo≤l[k].rt∧l[k].rt≤hi):rtB lo hi l=false:=by
 rw [rtB_no]
 intro M hM
 obtain ⟨k,hk,rfl⟩:=List.getElem_of_mem hM
 exact h k hk
set_option maxHeartbeats 8000000 in
set_option maxRecDepth 20000 in
theorem rvalid7_any (S:Sh) (D:Sx) (w:World) (hs:SR w w.heap.size S D) :
  Calls Tryz.prog 20 #[sv S D] w (VlT w (shV S)):=by
 have H0:=Lh (SAt.start 33 hs)
 have HRG:=Lh (fun p W (k:SAt w p S D W)=>rvalid_any D.A S.cs.length D.c S.cs S.hd S.sz W k.sr.ls)
 have HTB:=Lh (fun p W (k:SAt w p S D W)=>rtvalid_any D.A2 S.l.length D.c2 S.l D.A3 S.h.length D.c3 S.h W k.sr.el k.sr.dl)
 clear hs
 go_enter Tryz.func20,Tryz.ntmps20
 obtain ⟨t0,t1,t2,t3,t4,t5,t6,t7,tl⟩:=H0.out.s8.facts
 go_wp2_with fail
 clear t0 t1 t2 t3 t4 t5 t6 t7 tl
 obtain ⟨p,hp⟩:∃ p,p=w.heap.size:=⟨_,rfl⟩
 rw [←hp]
 rw [←hp] at H0
 clear hp
 generalize w.alloc (.cells #[.bool S.lv,.int .i64 S.lo,.int .i64 S.hi,.slice D.A S.cs.length D.c,.int .i64 S.hd,.int .i64 S.sz,.slice D.A2 S.l.length D.c2,.slice D.A3 S.h.length D.c3] 33)=w1 at*
 refine (HRG.out _ _ H0.out).mono ?_
 rintro e w2 ⟨rfl,hb⟩
 have H1:=Lh (H0.out.below hb)
 clear hb
 by_cases h1:rgV S.cs S.hd S.sz=0
 ·have HNU:=Lh (rg_nums h1)
  have HX1:=Lh h1
  rw [h1]
  clear h1
  obtain ⟨t0,t1,t2,t3,t4,t5,t6,t7,tl⟩:=H1.out.s8.facts
  go_wp2_with fail
  clear t0 t1 t2 t3 t4 t5 t6 t7 tl
  refine (HTB.out _ _ H1.out).mono ?_
  rintro e w3 ⟨rfl,hb⟩
  have H2:=Lh (H1.out.below hb)
  clear hb
  by_cases h2:tbV S.l S.h=0
  ·have HNT:=Lh (tb_nums h2)
   have HX2:=Lh h2
   rw [h2]
   clear h2
   have hwr:IntKind.i64.wrap (S.sz+(S.l.length:Int))=S.sz+(S.l.length:Int):=IntWalk.i64_in _ (by have h1:=HNU.out.2.2;have h2:=HNT.out.1;omega)
   cases hlv:S.lv with
   | true=>
    have HX:=Lh (shV_li HX1.out HX2.out hlv)
    have HE1:=Lh (fun h=>liE_1 (S:=S) h)
    have HE3:=Lh (fun h g=>liE_3 (S:=S) h g)
    have HE12:=Lh (fun h g k=>liE_12 (S:=S) h g k)
    have HE10:=Lh (fun h g k d=>liE_10 (S:=S) h g k d)
    have HE0:=Lh (fun h g k d=>liE_0 (S:=S) h g k d)
    rw [HX.out]
    generalize liE S=x at*
    have HSP:=Lh (fun W=>rspan7_any S.lo S.hi W)
    have HAL:=Lh (fun W (k:SAt w p S D W)=>rall_any S D W k.sr (by have:=lsF_le S.cs S.hd S.sz;omega) (by have:=HNT.out.1;omega))
    have hsv:(Value.agg #[.bool true,.int .i64 S.lo,.int .i64 S.hi,.slice D.A S.cs.length D.c,.int .i64 S.hd,.int .i64 S.sz,.slice D.A2 S.l.length D.c2,.slice D.A3 S.h.length D.c3])=sv S D:=by show _=Value.agg _;rw [hlv]
    obtain ⟨t0,t1,t2,t3,t4,t5,t6,t7,tl⟩:=H2.out.s8.facts
    rw [hlv] at t0
    clear hlv
    go_wp2_with fail
    clear t0 t1 t2 t3 t4 t5 t6 t7 tl
    refine (HSP.out _).mono ?_
    rintro e w4 ⟨rfl,rfl⟩
    cases hsp:spB S.lo S.hi with
    | false=>
     have HY:=Lh (HE1.out hsp)
     go_wp2
     go_ret
     exact ⟨by first | (rw [HX.out,HY.out];rfl) | (rw [HY.out];rfl),H2.out.bel⟩
    | true=>
     have HX3:=Lh hsp
     clear hsp
     obtain ⟨t0,t1,t2,t3,t4,t5,t6,t7,tl⟩:=H2.out.s8.facts
     by_cases hfu:(S.cs.length:Int)<S.sz+S.l.length
     ·have HY:=Lh (HE3.out HX3.out hfu)
      go_wp2
      go_ret
      exact ⟨by first | (rw [HX.out,HY.out];rfl) | (rw [HY.out];rfl),H2.out.bel⟩
     ·have HX4:=Lh hfu
      have HE12:=Lh (fun k=>HE12.out HX3.out (Int.not_lt.1 HX4.out) k)
      have HE10:=Lh (fun k d=>HE10.out HX3.out (Int.not_lt.1 HX4.out) k d)
      have HE0:=Lh (fun k d=>HE0.out HX3.out (Int.not_lt.1 HX4.out) k d)
      clear HE1 HE3
      go_wp2_with fail
      clear t0 t1 t2 t3 t4 t5 t6 t7 tl
      refine (HAL.out _ H2.out).mono ?_
      generalize S.al=L at*
      rintro e w5 ⟨A,c,rfl,hl,hb⟩
      have HA:=Lh (show VaAt w p S D (.slice A L.length c) L w5 from ⟨H2.out.below hb,hl⟩)
      have hm:=hl.len
      have hL:L.length≤9223372036854775807:=by have:=hm.2.2;unfold maxLen at this;omega
      clear hl hb hm hfu hwr
      go_wp2
      go_loopw [7] (fun i wr=>∃ k:Nat,k≤L.length∧i=.int .i64 k∧VaAt w p S D (.slice A L.length c) L wr∧∀ j (hj:j<L.length),j<k→S.lo≤L[j].rt∧L[j].rt≤S.hi) (fun i _=>L.length - (intOf i).toNat)
      case atStart=>exact ⟨0,Nat.zero_le _,rfl,HA.out,fun j hj h=>absurd h (by omega)⟩
      case round=>
       obtain ⟨k,hk,rfl,hva,hno⟩:=hrel
       have HV:=Lh hva
       have HNO:=Lh hno
       clear hva hno HA
       by_cases hlt:k<L.length
       ·obtain ⟨b,o,rfl,hbl,x0,x1,x2,x3,x4,x5,x6⟩:=HV.out.ls.at_ hlt
        have HYS:=Lh (rtB_yes (lo:=S.lo) (hi:=S.hi) hlt)
        have HKK:=Lh (fun (h1:S.lo≤L[k].rt) (h2:L[k].rt≤S.hi) j (hj:j<L.length) (h:j<k+1)=>show S.lo≤L[j].rt∧L[j].rt≤S.hi from by
         by_cases e:j=k
         ·subst e;exact ⟨h1,h2⟩
         ·exact HNO.out j hj (by omega))
        clear x0 x2 x3 x4 x5 x6
        generalize L[k].rt=R at*
        obtain ⟨t0,t1,t2,t3,t4,t5,t6,t7,tl⟩:=HV.out.sa.s8.facts
        by_cases h1:R<S.lo
        ·have HY:=Lh (HE12.out (HYS.out (.inl h1)))
         have hd:decide (R<S.lo)=true:=decide_eq_true h1
         go_wp2
         go_quiet (fail)
         go_wp2
         go_ret
         exact ⟨by first | (rw [HX.out,HY.out];rfl) | (rw [HY.out];rfl),(HV.out.below (below_dn _ _)).sa.bel⟩
        ·have hd:decide (R<S.lo)=false:=decide_eq_false h1
         by_cases h2:S.hi<R
         ·have HY:=Lh (HE12.out (HYS.out (.inr h2)))
          go_wp2
          go_quiet (fail)
          go_wp2
          go_ret
          exact ⟨by first | (rw [HX.out,HY.out];rfl) | (rw [HY.out];rfl),(HV.out.below (below_dn _ _)).sa.bel⟩
         ·have HKJ:=Lh (HKK.out (by omega) (by omega))
          go_wp2
          go_quiet (fail)
          go_wp2
          go_roundw
          case rel=>exact ⟨k+1,by omega,by go_num,HV.out.below (below_dn _ _),HKJ.out⟩
          case measure=>simp [intOf];omega
       ·have HR0:=Lh (rtB_get (lo:=S.lo) (hi:=S.hi) (l:=L) (fun j hj=>HNO.out j hj (by omega)))
        have HE10:=Lh (HE10.out HR0.out)
        have HE0:=Lh (HE0.out HR0.out)
        clear HNO HE12 HR0
        go_wp2
        go_loopw [8] (fun i ws=>∃ k:Nat,k≤L.length∧i=.int .i64 k∧VaAt w p S D (.slice A L.length c) L ws∧∀ j (hj:j<L.length),j<k→ixF L L[j].id=j) (fun i _=>L.length - (intOf i).toNat)
        case atStart=>exact ⟨0,Nat.zero_le _,rfl,HV.out,fun j hj h=>absurd h (by omega)⟩
        case round=>
         obtain ⟨k,hk,rfl,hva,hno⟩:=hrel
         have HV:=Lh hva
         have HNO:=Lh hno
         clear hva hno
         by_cases hlt:k<L.length
         ·obtain ⟨b,o,rfl,hbl,x0,x1,x2,x3,x4,x5,x6⟩:=HV.out.ls.at_ hlt
          have HIX:=Lh (fun W B (h:Ls W B (.slice (some ⟨b,o,none⟩) L.length c) L)=>rindex_any (some ⟨b,o,none⟩) L.length c L L[k].id W B h)
          have HDU:=Lh (ix_other hlt)
          have HKK:=Lh (fun (h1:ixF L L[k].id=(k:Int)) j (hj:j<L.length) (h:j<k+1)=>show ixF L L[j].id=(j:Int) from by
           by_cases e:j=k
           ·subst e;exact h1
           ·exact HNO.out j hj (by omega))
          clear x1 x2 x3 x4 x5 x6
          generalize L[k].id=R at*
          go_wp2_with fail
          refine (HIX.out _ _ HV.out.ls).mono ?_
          rintro e w6 ⟨rfl,rfl⟩
          generalize ixF L R=Q at*
          by_cases hq:Q=(k:Int)
          ·have hne:(Q != (k:Int))=false:=by simp [hq]
           have HKJ:=Lh (HKK.out hq)
           clear hq HKK HDU
           go_wp2
           go_roundw
           case rel=>exact ⟨k+1,by omega,by go_num,HV.out,HKJ.out⟩
           case measure=>simp [intOf];omega
          ·have hne:(Q != (k:Int))=true:=by simp [hq]
           have HY:=Lh (HE10.out (dpB_yes (HDU.out hq)))
           clear hq HKK HDU
           go_wp2
           go_ret
           exact ⟨by first | (rw [HX.out,HY.out];rfl) | (rw [HY.out];rfl),HV.out.sa.bel⟩
         ·have HY:=Lh (HE0.out (dpB_no (dup_none (fun j hj=>HNO.out j hj (by omega)))))
          go_wp2
          go_ret
          exact ⟨by first | (rw [HX.out,HY.out];rfl) | (rw [HY.out];rfl),HV.out.sa.bel⟩
   | false=>
    have HX:=Lh (shV_of HX1.out HX2.out hlv)
    obtain ⟨t0,t1,t2,t3,t4,t5,t6,t7,tl⟩:=H2.out.s8.facts
    rw [hlv] at t0
    clear hlv
    by_cases hlo:S.lo=0
    ·have blo:(S.lo != 0)=false:=by simp [hlo]
     have HLO:=Lh hlo
     clear hlo
     by_cases hhi:S.hi=0
     ·have bhi:(S.hi != 0)=false:=by simp [hhi]
      have HHI:=Lh hhi
      clear hhi
      by_cases hz:0<S.sz+S.l.length
      ·go_wp2
       go_ret
       exact ⟨by rw [HX.out,if_pos (.inr (.inr hz))];rfl,H2.out.bel⟩
      ·go_wp2
       go_ret
       exact ⟨by rw [HX.out,if_neg (by have:=HLO.out;have:=HHI.out;omega)];rfl,H2.out.bel⟩
     ·have bhi:(S.hi != 0)=true:=by simp [hhi]
      have HHI:=Lh hhi
      clear hhi
      go_wp2
      go_ret
      exact ⟨by rw [HX.out,if_pos (.inr (.inl HHI.out))];rfl,H2.out.bel⟩
    ·have blo:(S.lo != 0)=true:=by simp [hlo]
     have HLO:=Lh hlo
     clear hlo
     go_wp2
     go_ret
     exact ⟨by rw [HX.out,if_pos (.inl HLO.out)];rfl,H2.out.bel⟩
  ·have HX:=Lh (shV_tb HX1.out h2)
   have hne:(tbV S.l S.h != 0)=true:=bne_iff_ne.2 h2
   go_wp2
   go_ret
   exact ⟨by first | (rw [HX.out];rfl) | rfl,H2.out.bel⟩
 ·have HX:=Lh (shV_rg h1)
  have hne:(rgV S.cs S.hd S.sz != 0)=true:=bne_iff_ne.2 h1
  go_wp2
  go_ret
  exact ⟨by first | (rw [HX.out];rfl) | rfl,H1.out.bel⟩
set_option maxHeartbeats 4000000 in
set_option maxRecDepth 20000 in
theorem rlive7_any (S:Sh) (D:Sx) (w:World) (hs:SR w w.heap.size S D) :
  Calls Tryz.prog 122 #[sv S D] w (VlT w (exS S true)):=by
 have H0:=Lh (SAt.start 33 hs)
 have HV:=Lh (fun p W (k:SAt w p S D W)=>rvalid7_any S D W k.sr)
 clear hs
 go_enter Tryz.func122,Tryz.ntmps122
 obtain ⟨t0,t1,t2,t3,t4,t5,t6,t7,tl⟩:=H0.out.s8.facts
 go_wp2_with fail
 clear t0 t1 t2 t3 t4 t5 t6 t7 tl
 obtain ⟨p,hp⟩:∃ p,p=w.heap.size:=⟨_,rfl⟩
 rw [←hp]
 rw [←hp] at H0
 clear hp
 generalize w.alloc (.cells #[.bool S.lv,.int .i64 S.lo,.int .i64 S.hi,.slice D.A S.cs.length D.c,.int .i64 S.hd,.int .i64 S.sz,.slice D.A2 S.l.length D.c2,.slice D.A3 S.h.length D.c3] 33)=w1 at*
 refine (HV.out _ _ H0.out).mono ?_
 rintro e w2 ⟨rfl,hb⟩
 have H1:=Lh (H0.out.below hb)
 clear hb
 by_cases h1:shV S=0
 ·obtain ⟨t0,t1,t2,t3,t4,t5,t6,t7,tl⟩:=H1.out.s8.facts
  rw [h1]
  by_cases h2:S.lv=true
  ·have HX:=Lh (show exS S true=0 from exS_ok h1 h2 rfl)
   rw [h2] at t0
   clear h1 h2
   go_wp2
   go_ret
   exact ⟨by rw [HX.out];rfl,H1.out.bel⟩
  ·have h3:S.lv=false:=by simpa using h2
   have HX:=Lh (show exS S true=7 from exS_off true h1 h3)
   rw [h3] at t0
   clear h1 h2 h3
   go_wp2
   go_ret
   exact ⟨by rw [HX.out];rfl,H1.out.bel⟩
 ·have HX:=Lh (show exS S true=shV S from exS_bad true h1)
  have hne:(shV S != 0)=true:=bne_iff_ne.2 h1
  clear h1
  generalize shV S=x at*
  go_wp2
  go_ret
  exact ⟨by rw [HX.out];rfl,H1.out.bel⟩
set_option maxHeartbeats 4000000 in
set_option maxRecDepth 20000 in
theorem rstored7_any (S:Sh) (D:Sx) (w:World) (hs:SR w w.heap.size S D) :
  Calls Tryz.prog 77 #[sv S D] w (VlT w (stF S)):=by
 have H0:=Lh (SAt.start 33 hs)
 have HV:=Lh (fun p W (k:SAt w p S D W)=>rlive7_any S D W k.sr)
 clear hs
 go_enter Tryz.func77,Tryz.ntmps77
 obtain ⟨t0,t1,t2,t3,t4,t5,t6,t7,tl⟩:=H0.out.s8.facts
 go_wp2_with fail
 clear t0 t1 t2 t3 t4 t5 t6 t7 tl
 obtain ⟨p,hp⟩:∃ p,p=w.heap.size:=⟨_,rfl⟩
 rw [←hp]
 rw [←hp] at H0
 clear hp
 generalize w.alloc (.cells #[.bool S.lv,.int .i64 S.lo,.int .i64 S.hi,.slice D.A S.cs.length D.c,.int .i64 S.hd,.int .i64 S.sz,.slice D.A2 S.l.length D.c2,.slice D.A3 S.h.length D.c3] 33)=w1 at*
 refine (HV.out _ _ H0.out).mono ?_
 rintro e w2 ⟨rfl,hb⟩
 have H1:=Lh (H0.out.below hb)
 clear hb
 by_cases h1:exS S true=0
 ·have HX:=Lh (show stF S=S.sz+S.l.length from if_pos h1)
  have hn:=ex_nums h1
  have hw:IntKind.i64.wrap (S.sz+(S.l.length:Int))=S.sz+S.l.length:=IntWalk.i64_in _ (by omega)
  rw [h1]
  clear h1 hn
  obtain ⟨t0,t1,t2,t3,t4,t5,t6,t7,tl⟩:=H1.out.s8.facts
  go_wp2
  go_ret
  exact ⟨by rw [HX.out];first | rfl | simp [hw],H1.out.bel⟩
 ·have HX:=Lh (show stF S=0 from if_neg h1)
  have hne:(exS S true != 0)=true:=bne_iff_ne.2 h1
  clear h1
  generalize exS S true=x at*
  go_wp2
  go_ret
  exact ⟨by rw [HX.out];rfl,H1.out.bel⟩
noncomputable def owF (S:Sh) (rt:Int):Bool:=decide (exS S true=0)&&wi rt S.lo S.hi
set_option maxHeartbeats 4000000 in
set_option maxRecDepth 20000 in
theorem rowns7_any (S:Sh) (D:Sx) (rt:Int) (w:World) (hs:SR w w.heap.size S D) :
  Calls Tryz.prog 79 #[sv S D,.int .i64 rt] w fun e w'=>e=.returned (.bool (owF S rt))∧Below w.heap.size w w':=by
 have H0:=Lh (SAt.start 33 hs)
 have HV:=Lh (fun p W (k:SAt w p S D W)=>rlive7_any S D W k.sr)
 clear hs
 go_enter Tryz.func79,Tryz.ntmps79
 obtain ⟨t0,t1,t2,t3,t4,t5,t6,t7,tl⟩:=H0.out.s8.facts
 go_wp2_with fail
 clear t0 t1 t2 t3 t4 t5 t6 t7 tl
 obtain ⟨p,hp⟩:∃ p,p=w.heap.size:=⟨_,rfl⟩
 rw [←hp]
 rw [←hp] at H0
 clear hp
 generalize w.alloc (.cells #[.bool S.lv,.int .i64 S.lo,.int .i64 S.hi,.slice D.A S.cs.length D.c,.int .i64 S.hd,.int .i64 S.sz,.slice D.A2 S.l.length D.c2,.slice D.A3 S.h.length D.c3] 33)=w1 at*
 refine (HV.out _ _ H0.out).mono ?_
 rintro e w2 ⟨rfl,hb⟩
 have H1:=Lh (H0.out.below hb)
 clear hb
 by_cases h1:exS S true=0
 ·have HX:=Lh (show owF S rt=wi rt S.lo S.hi by unfold owF;rw [h1];simp)
  rw [h1]
  clear h1
  obtain ⟨t0,t1,t2,t3,t4,t5,t6,t7,tl⟩:=H1.out.s8.facts
  by_cases h2:S.lo≤rt
  ·go_wp2
   go_ret
   exact ⟨by rw [HX.out,wi];exact congrArg (fun b=>Ending.returned (Value.bool b)) (by simp [h2]),H1.out.bel⟩
  ·go_wp2
   go_ret
   exact ⟨by rw [HX.out,wi_low (by omega)];rfl,H1.out.bel⟩
 ·have HX:=Lh (show owF S rt=false by unfold owF;simp [h1])
  have hne:(exS S true==0)=false:=by simpa using h1
  clear h1
  generalize exS S true=x at*
  go_wp2
  go_ret
  exact ⟨by rw [HX.out];rfl,H1.out.bel⟩
set_option maxHeartbeats 4000000 in
set_option maxRecDepth 20000 in
theorem sowns_any (S:Sh) (D:Sx) (rt:Int) (w:World) (hs:SR w w.heap.size S D) :
  Calls Tryz.prog 78 #[sv S D,.int .i64 rt] w fun e w'=>e=.returned (.bool (owF S rt))∧Below w.heap.size w w':=by
 have H0:=Lh (SAt.start 33 hs)
 have HV:=Lh (fun p W (k:SAt w p S D W)=>sexam_any S D none 0 0 [] W k.sr Nl.nil)
 have HE:([]:List Rn).all Rn.ok=true:=rfl
 rw [HE] at HV
 have HHA:=Lh (fun W=>shas_any S D rt W)
 clear hs HE
 go_enter Tryz.func78,Tryz.ntmps78
 obtain ⟨t0,t1,t2,t3,t4,t5,t6,t7,tl⟩:=H0.out.s8.facts
 go_wp2_with fail
 clear t0 t1 t2 t3 t4 t5 t6 t7 tl
 obtain ⟨p,hp⟩:∃ p,p=w.heap.size:=⟨_,rfl⟩
 rw [←hp]
 rw [←hp] at H0
 clear hp
 generalize w.alloc (.cells #[.bool S.lv,.int .i64 S.lo,.int .i64 S.hi,.slice D.A S.cs.length D.c,.int .i64 S.hd,.int .i64 S.sz,.slice D.A2 S.l.length D.c2,.slice D.A3 S.h.length D.c3] 33)=w1 at*
 refine (HV.out _ _ H0.out).mono ?_
 rintro e w2 ⟨rfl,hb⟩
 have H1:=Lh (H0.out.below hb)
 clear hb
 by_cases h1:exS S true=0
 ·have HX:=Lh (show owF S rt=wi rt S.lo S.hi by unfold owF;rw [h1];simp)
  rw [h1]
  clear h1
  obtain ⟨t0,t1,t2,t3,t4,t5,t6,t7,tl⟩:=H1.out.s8.facts
  go_wp2_with fail
  clear t0 t1 t2 t3 t4 t5 t6 t7 tl
  refine (HHA.out _).mono ?_
  rintro e w3 ⟨rfl,hb⟩
  have H2:=Lh (H1.out.below hb)
  clear hb
  go_wp2
  go_ret
  exact ⟨by rw [HX.out];rfl,H2.out.bel⟩
 ·have HX:=Lh (show owF S rt=false by unfold owF;simp [h1])
  have hne:(exS S true==0)=false:=by simpa using h1
  clear h1
  generalize exS S true=x at*
  go_wp2
  go_ret
  exact ⟨by rw [HX.out];rfl,H1.out.bel⟩
set_option maxHeartbeats 8000000 in
set_option maxRecDepth 20000 in
theorem rtFind_any (A:Option Addr) (n c:Nat) (l:List Le) (A2:Option Addr) (n2 c2:Nat) (h:List Du) (id:Int) (w:World) (hv:El w w.heap.size (.slice A n c) l) (hd:Dl w w.heap.size (.slice A2 n2 c2) h) :
  Calls Tryz.prog 130 #[tv A n c A2 n2 c2,.int .i64 id] w fun e w'=>e=.returned (.tuple #[(fnX l h id).v,.bool (fnO l h id)])∧Below w.heap.size w w':=by
 obtain ⟨rfl,hm1,hm2⟩:=hv.len
 obtain ⟨rfl,hm3,hm4⟩:=hd.len
 have H0:=Lh ((VaA.start 31 hv hd).alloc (.cells #[.int .i64 0,.int .i64 0,.int .i64 0,.int .i64 0,.int .i64 0,.int .i64 0,.string ⟨#[]⟩,.int .i64 0] 58))
 have HR0:=Lh (RL.start (w.alloc (.cells #[.slice A l.length c,.slice A2 h.length c2] 31)) zL 58)
 clear hv hd hm1 hm2 hm3 hm4
 obtain ⟨O,hO⟩:∃ O,O=fnO l h id:=⟨_,rfl⟩
 obtain ⟨X,hX⟩:∃ X,X=fnX l h id:=⟨_,rfl⟩
 obtain ⟨y,hy⟩:∃ y,y=kFi Le.id l id:=⟨_,rfl⟩
 obtain ⟨z,hz⟩:∃ z,z=tbV l h:=⟨_,rfl⟩
 have HF:=Lh (fun W (hv:El W W.heap.size (.slice A l.length c) l)=>rtfind_any A l.length c l A2 h.length c2 id W hv)
 have HV:=Lh (fun p W (k:VaA w p A c l A2 c2 h W)=>rtvalid_any A l.length c l A2 h.length c2 h W k.el k.dl)
 rw [←hy] at HF
 rw [←hz] at HV
 rw [←hO,←hX]
 have HO:=Lh hO
 have HX:=Lh hX
 have HY:=Lh hy
 have HZ:=Lh hz
 clear hO hX hy hz
 go_enter Tryz.func130,Tryz.ntmps130
 go_wp2_with fail
 obtain ⟨p,hp⟩:∃ p,p=w.heap.size:=⟨_,rfl⟩
 obtain ⟨r,hr⟩:∃ r,r=w.heap.size+1:=⟨_,rfl⟩
 have HPR:=Lh (show ¬p=r∧w.heap.size≤r by omega)
 have e1:(w.alloc (.cells #[.slice A l.length c,.slice A2 h.length c2] 31)).heap.size=r:=by rw [hr];simp
 rw [e1] at HR0
 have HS:=Lh (show VaA w p A c l A2 c2 h ((w.alloc (.cells #[.slice A l.length c,.slice A2 h.length c2] 31)).alloc (.cells #[.int .i64 0,.int .i64 0,.int .i64 0,.int .i64 0,.int .i64 0,.int .i64 0,.string ⟨#[]⟩,.int .i64 0] 58))∧RL ((w.alloc (.cells #[.slice A l.length c,.slice A2 h.length c2] 31)).alloc (.cells #[.int .i64 0,.int .i64 0,.int .i64 0,.int .i64 0,.int .i64 0,.int .i64 0,.string ⟨#[]⟩,.int .i64 0] 58)) r zL from ⟨by rw [hp];exact H0.out,HR0.out⟩)
 rw [←hr,←hp]
 clear e1 H0 HR0 hp hr
 generalize ((w.alloc (.cells #[.slice A l.length c,.slice A2 h.length c2] 31)).alloc (.cells #[.int .i64 0,.int .i64 0,.int .i64 0,.int .i64 0,.int .i64 0,.int .i64 0,.string ⟨#[]⟩,.int .i64 0] 58))=w2 at*
 refine (HF.out _ HS.out.1.el).mono ?_
 rintro e w3 ⟨rfl,hb⟩
 have HS3:=Lh (show VaA w p A c l A2 c2 h w3∧RL w3 r zL from ⟨HS.out.1.below hb,HS.out.2.below hb HS.out.2.lt⟩)
 clear hb
 obtain ⟨t0,t1,tl⟩:=HS3.out.1.tb
 by_cases hz0:z=0
 ·rw [hz0] at HV
  have HZ0:=Lh (HZ.out.symm.trans hz0)
  clear hz0
  by_cases hy0:y<0
  ·have HXO:=Lh (show X=zL∧O=false from ⟨HX.out.trans (fn_no fun hh=>by have:=HY.out;omega).2,HO.out.trans (fn_no fun hh=>by have:=HY.out;omega).1⟩)
   go_wp2_with fail
   refine (HV.out _ _ HS3.out.1).mono ?_
   rintro e w4 ⟨rfl,hb⟩
   have HS4:=Lh (show VaA w p A c l A2 c2 h w4∧RL w4 r zL from ⟨HS3.out.1.below hb,HS3.out.2.below hb HS3.out.2.lt⟩)
   clear hb t0 t1 tl
   obtain ⟨t0,t1,tl⟩:=HS4.out.1.tb
   obtain ⟨r0,r1,r2,r3,r4,r5,r6,r7,g0,g1,g2,g3,g4,g5,g6,g7,rl⟩:=HS4.out.2
   have hpr:¬p=r:=HPR.out.1
   have hrp:¬r=p:=fun e=>HPR.out.1 e.symm
   go_wp2
   exact bodyPost_ret (v:=.tuple #[.agg #[.int .i64 0,.int .i64 0,.int .i64 0,.int .i64 0,.int .i64 0,.int .i64 0,.string ⟨#[]⟩,.int .i64 0],.bool false]) (by simp only [results,Tryz.results130];go_simp <;> rfl) rfl ⟨by rw [HXO.out.1,HXO.out.2];rfl,sets_below HPR.out.2 zL.l 0 _ HS4.out.1.bel⟩
  ·rcases kFi_cases Le.id l id with ⟨ey,_⟩ | ⟨k,hk,ey,eid,_⟩
   ·exact absurd (HY.out.trans ey) (by omega)
   ·obtain rfl:y=(k:Int):=HY.out.trans ey
    have hk' : (k:Int)<(l.length:Int):=by omega
    obtain ⟨Y,hY⟩:∃ Y,l[k]=Y:=⟨_,rfl⟩
    have HXO:=Lh (show X=Y∧O=true from ⟨HX.out.trans ((fn_yes HZ0.out hk ey).2.trans hY),HO.out.trans (fn_yes HZ0.out hk ey).1⟩)
    have HYK:=Lh hY
    clear hY ey eid
    go_wp2_with fail
    refine (HV.out _ _ HS3.out.1).mono ?_
    rintro e w4 ⟨rfl,hb⟩
    have HS4:=Lh (show VaA w p A c l A2 c2 h w4∧RL w4 r zL from ⟨HS3.out.1.below hb,HS3.out.2.below hb HS3.out.2.lt⟩)
    clear hb t0 t1 tl
    obtain ⟨t0,t1,tl⟩:=HS4.out.1.tb
    obtain ⟨r0,r1,r2,r3,r4,r5,r6,r7,g0,g1,g2,g3,g4,g5,g6,g7,rl⟩:=HS4.out.2
    have hpr:¬p=r:=HPR.out.1
    have hrp:¬r=p:=fun e=>HPR.out.1 e.symm
    obtain ⟨b,o,rfl,hbl⟩:=HS4.out.1.el.some_ (by omega)
    obtain ⟨⟨c0,c1,c2',c3,c4,c5,c6,c7⟩,_⟩:=HS4.out.1.el.c8 hk
    rw [HYK.out] at c0 c1 c2' c3 c4 c5 c6 c7
    go_wp2
    exact bodyPost_ret (v:=.tuple #[Y.v,.bool true]) (by simp only [results,Tryz.results130];go_simp <;> rfl) rfl ⟨by rw [HXO.out.1,HXO.out.2],sets_below HPR.out.2 Y.l 0 _ HS4.out.1.bel⟩
 ·have hz' : (z != 0)=true:=by simpa using hz0
  have HXO:=Lh (show X=zL∧O=false from ⟨HX.out.trans (fn_no fun hh=>by have:=HZ.out;omega).2,HO.out.trans (fn_no fun hh=>by have:=HZ.out;omega).1⟩)
  clear hz0
  go_wp2_with fail
  refine (HV.out _ _ HS3.out.1).mono ?_
  rintro e w4 ⟨rfl,hb⟩
  have HS4:=Lh (show VaA w p A c l A2 c2 h w4∧RL w4 r zL from ⟨HS3.out.1.below hb,HS3.out.2.below hb HS3.out.2.lt⟩)
  clear hb t0 t1 tl
  obtain ⟨t0,t1,tl⟩:=HS4.out.1.tb
  obtain ⟨r0,r1,r2,r3,r4,r5,r6,r7,g0,g1,g2,g3,g4,g5,g6,g7,rl⟩:=HS4.out.2
  have hpr:¬p=r:=HPR.out.1
  have hrp:¬r=p:=fun e=>HPR.out.1 e.symm
  go_wp2
  exact bodyPost_ret (v:=.tuple #[.agg #[.int .i64 0,.int .i64 0,.int .i64 0,.int .i64 0,.int .i64 0,.int .i64 0,.string ⟨#[]⟩,.int .i64 0],.bool false]) (by simp only [results,Tryz.results130];go_simp <;> rfl) rfl ⟨by rw [HXO.out.1,HXO.out.2];rfl,sets_below HPR.out.2 zL.l 0 _ HS4.out.1.bel⟩
theorem ho7_no {S:Sh} {H:Hn} {now ep:Int} (h:exS S (wi now 0 1073741824&&wi ep 0 65536)≠0):hoF S H now ep=false:=by unfold hoF;rw [decide_eq_false h];rfl
set_option maxHeartbeats 8000000 in
set_option maxRecDepth 20000 in
theorem rholds7_any (S:Sh) (D:Sx) (H:Hn) (now ep:Int) (w:World) (hs:SR w w.heap.size S D) :
  Calls Tryz.prog 80 #[sv S D,H.v,.int .i64 now,.int .i64 ep] w fun e w'=>e=.returned (.bool (hoF S H now ep))∧Below w.heap.size w w':=by
 have H0:=Lh ((SAt.start 33 hs).alloc (.cells #[.int .i64 H.id,.int .i64 H.gn,.int .i64 H.rt,.int .i64 H.ht] 40))
 have Q0:=Lh (H4.start (w.alloc (.cells #[.bool S.lv,.int .i64 S.lo,.int .i64 S.hi,.slice D.A S.cs.length D.c,.int .i64 S.hd,.int .i64 S.sz,.slice D.A2 S.l.length D.c2,.slice D.A3 S.h.length D.c3] 33)) H 40)
 have HV:=Lh (fun p W (k:SAt w p S D W)=>rlive7_any S D W k.sr)
 have HEP:=Lh (fun W=>repochs_any ep W)
 have HTI:=Lh (fun W=>rtimes_any now W)
 have HF:=Lh (fun p W (k:SAt w p S D W)=>rtFind_any D.A2 S.l.length D.c2 S.l D.A3 S.h.length D.c3 S.h H.id W k.sr.el k.sr.dl)
 have HNO:=Lh (fun h=>ho7_no (S:=S) (H:=H) (now:=now) (ep:=ep) h)
 have HHO:Hid (hoF S H now ep=(decide (exS S (wi now 0 1073741824&&wi ep 0 65536)=0)&&(fnO S.l S.h H.id&&hxF (fnX S.l S.h H.id) H now ep))):=Lh rfl
 clear hs
 generalize hoF S H now ep=a at*
 generalize fnX S.l S.h H.id=X at*
 generalize fnO S.l S.h H.id=O at*
 unfold hxF at HHO
 have HPU:=Lh (fun W=>rpurged_any X.m ep W)
 generalize puF X.m ep=pu at*
 go_enter Tryz.func80,Tryz.ntmps80
 obtain ⟨p,hp⟩:∃ p,p=w.heap.size:=⟨_,rfl⟩
 obtain ⟨q,hq⟩:∃ q,q=w.heap.size+1:=⟨_,rfl⟩
 have e1:(w.alloc (.cells #[.bool S.lv,.int .i64 S.lo,.int .i64 S.hi,.slice D.A S.cs.length D.c,.int .i64 S.hd,.int .i64 S.sz,.slice D.A2 S.l.length D.c2,.slice D.A3 S.h.length D.c3] 33)).heap.size=q:=by rw [hq];simp
 rw [e1] at Q0
 rw [←hp] at H0
 clear e1
 obtain ⟨t0,t1,t2,t3,t4,t5,t6,t7,tl⟩:=H0.out.s8.facts
 go_wp2_with fail
 clear t0 t1 t2 t3 t4 t5 t6 t7 tl
 rw [←hq,←hp]
 clear hp hq
 generalize ((w.alloc (.cells #[.bool S.lv,.int .i64 S.lo,.int .i64 S.hi,.slice D.A S.cs.length D.c,.int .i64 S.hd,.int .i64 S.sz,.slice D.A2 S.l.length D.c2,.slice D.A3 S.h.length D.c3] 33)).alloc (.cells #[.int .i64 H.id,.int .i64 H.gn,.int .i64 H.rt,.int .i64 H.ht] 40))=w1 at*
 refine (HV.out _ _ H0.out).mono ?_
 rintro e w2 ⟨rfl,hb⟩
 have H9:=Lh (H0.out.below hb)
 have Q9:=Lh (Q0.out.up hb)
 clear hb H0 Q0
 by_cases hz:exS S true=0
 ·obtain ⟨hv,hlv,-⟩:=exS_zero hz
  rw [hz]
  clear hz
  cases hb1:wi ep 0 65536 with
  | false=>
   have HX:=Lh (HNO.out (by rw [hb1,exS_num (b:=wi now 0 1073741824&&false) hv hlv (by simp)];decide))
   rw [hb1] at HEP
   clear hv hlv HHO HNO hb1
   go_wp2_with fail
   refine (HEP.out _).mono ?_
   rintro e w3 ⟨rfl,rfl⟩
   go_wp2
   go_ret
   exact ⟨by rw [HX.out];rfl,H9.out.bel⟩
  | true=>
   cases hb2:wi now 0 1073741824 with
   | false=>
    have HX:=Lh (HNO.out (by rw [hb1,hb2,exS_num (b:=false&&true) hv hlv rfl];decide))
    rw [hb1] at HEP
    rw [hb2] at HTI
    clear hv hlv HHO HNO hb1 hb2
    go_wp2_with fail
    refine (HEP.out _).mono ?_
    rintro e w3 ⟨rfl,rfl⟩
    go_wp2_with fail
    refine (HTI.out _).mono ?_
    rintro e w3 ⟨rfl,rfl⟩
    go_wp2
    go_ret
    exact ⟨by rw [HX.out];rfl,H9.out.bel⟩
   | true=>
    rw [hb1,hb2,exS_ok (b:=true&&true) hv hlv rfl,show (decide ((0:Int)=0)&&(O&&(X.m.gn==H.gn&&(X.m.rt==H.rt&&(!pu&&decide (now<X.dl))))))=(O&&(X.m.gn==H.gn&&(X.m.rt==H.rt&&(!pu&&decide (now<X.dl))))) from rfl] at HHO
    rw [hb1] at HEP
    rw [hb2] at HTI
    clear hv hlv HNO hb1 hb2
    obtain ⟨t0,t1,t2,t3,t4,t5,t6,t7,tl⟩:=H9.out.s8.facts
    obtain ⟨q0,q1,q2,q3,ql⟩:=Q9.out
    go_wp2_with fail
    refine (HEP.out _).mono ?_
    rintro e w3 ⟨rfl,rfl⟩
    go_wp2_with fail
    refine (HTI.out _).mono ?_
    rintro e w3 ⟨rfl,rfl⟩
    go_wp2_with fail
    clear t0 t1 t2 t3 t4 t5 t6 t7 tl q0 q1 q2 q3 ql
    refine (HF.out _ _ H9.out).mono ?_
    rintro e w6 ⟨rfl,hb⟩
    have B6:=Lh (bal (btr H9.out.bel hb) (.cells #[.int .i64 X.m.id,.int .i64 X.m.rt,.int .i64 X.m.ep,.int .i64 X.m.ct,.int .i64 X.m.gn,.int .i64 X.m.st,.string X.m.bd,.int .i64 X.dl] 58))
    obtain ⟨q0,q1,q2,q3,ql⟩:=Q9.out.up hb
    clear hb
    cases O with
    | false=>
     have HX:=Lh (show a=false by rw [HHO.out];simp)
     clear HHO
     go_wp2
     go_ret
     exact ⟨by rw [HX.out];rfl,B6.out⟩
    | true=>
     cases h1:(X.m.gn==H.gn) with
     | false=>
      have HX:=Lh (show a=false by rw [HHO.out,h1];simp)
      clear HHO
      go_wp2
      go_ret
      exact ⟨by rw [HX.out];rfl,B6.out⟩
     | true=>
      cases h2:(X.m.rt==H.rt) with
      | false=>
       have HX:=Lh (show a=false by rw [HHO.out,h2];simp)
       clear HHO
       go_wp2
       go_ret
       exact ⟨by rw [HX.out];rfl,B6.out⟩
      | true=>
       cases pu with
       | true=>
        have HX:=Lh (show a=false by rw [HHO.out];simp)
        clear HHO
        go_wp2_with fail
        refine (HPU.out _).mono ?_
        rintro e w7 ⟨rfl,hb⟩
        have B7:=Lh (btr B6.out hb)
        clear hb
        go_wp2
        go_ret
        exact ⟨by rw [HX.out];rfl,B7.out⟩
       | false=>
        have hz':=B6.out.size
        have HX:=Lh (show a=decide (now<X.dl) by rw [HHO.out,h1,h2];simp)
        clear HHO
        go_wp2_with fail
        refine (HPU.out _).mono ?_
        rintro e w7 ⟨rfl,hb⟩
        have B7:=Lh (btr B6.out hb)
        have c7:=(hb.cell (p:=⟨w6.heap.size,7,none⟩) (by simp)).trans (show _=some (.int .i64 X.dl) by simp [go_sem])
        clear hb
        go_wp2
        go_ret
        exact ⟨by rw [HX.out];rfl,B7.out⟩
 ·have hne:(exS S true != 0)=true:=bne_iff_ne.2 hz
  have HX:=Lh (HNO.out (fun e=>hz (by obtain ⟨a,b,-⟩:=exS_zero e;exact exS_ok a b rfl)))
  clear hz HHO HNO
  generalize exS S true=z at*
  go_wp2
  go_ret
  exact ⟨by rw [HX.out];rfl,H9.out.bel⟩
theorem he_rng {S:Sh} {H:Hn} {now ep:Int} {b:Bool} (hv:shV S=0) (hl:S.lv=true) (h:(b&&(wi now 0 1073741824&&wi ep 0 65536))=false):heS S H now ep b=1:=by
 unfold heS;rw [h,exS_num (b:=false) hv hl rfl];rfl
theorem he7_ok {S:Sh} {H:Hn} {now ep:Int} {b:Bool} (hv:shV S=0) (hl:S.lv=true) (h:(b&&(wi now 0 1073741824&&wi ep 0 65536))=true):heS S H now ep b=if hoF S H now ep=true then 0 else 5:=by
 unfold heS;rw [h,exS_ok (b:=true) hv hl rfl];rfl
theorem he_ex {S:Sh} {H:Hn} {now ep:Int} {b:Bool} (h:exS S true≠0):heS S H now ep b=exS S true:=by
 have e:∀ c,exS S c=exS S true:=fun c=>by
  unfold exS at h ⊢
  by_cases h1:shV S≠0
  ·rw [if_pos h1,if_pos h1]
  ·rw [if_neg h1] at h
   rw [if_neg h1,if_neg h1]
   by_cases h2:S.lv=false
   ·rw [if_pos h2,if_pos h2]
   ·rw [if_neg h2] at h;exact absurd rfl h
 unfold heS;rw [e,if_pos h]
set_option maxHeartbeats 8000000 in
set_option maxRecDepth 20000 in
theorem rheld7_any (S:Sh) (D:Sx) (H:Hn) (now ep:Int) (g:Bool) (w:World) (hs:SR w w.heap.size S D) :
  Calls Tryz.prog 138 #[sv S D,H.v,.int .i64 now,.int .i64 ep,.bool g] w (VlT w (heS S H now ep g)):=by
 have H0:=Lh ((SAt.start 33 hs).alloc (.cells #[.int .i64 H.id,.int .i64 H.gn,.int .i64 H.rt,.int .i64 H.ht] 40))
 have Q0:=Lh (H4.start (w.alloc (.cells #[.bool S.lv,.int .i64 S.lo,.int .i64 S.hi,.slice D.A S.cs.length D.c,.int .i64 S.hd,.int .i64 S.sz,.slice D.A2 S.l.length D.c2,.slice D.A3 S.h.length D.c3] 33)) H 40)
 have HV:=Lh (fun p W (k:SAt w p S D W)=>rlive7_any S D W k.sr)
 have HEP:=Lh (fun W=>repochs_any ep W)
 have HTI:=Lh (fun W=>rtimes_any now W)
 have HH:=Lh (fun p W (k:SAt w p S D W)=>rholds7_any S D H now ep W k.sr)
 have HR:=Lh (fun hv hl h=>he_rng (S:=S) (H:=H) (now:=now) (ep:=ep) (b:=g) hv hl h)
 have HO:=Lh (fun hv hl h=>he7_ok (S:=S) (H:=H) (now:=now) (ep:=ep) (b:=g) hv hl h)
 have HX:=Lh (fun h=>he_ex (S:=S) (H:=H) (now:=now) (ep:=ep) (b:=g) h)
 clear hs
 generalize heS S H now ep g=x at*
 generalize hoF S H now ep=ho at*
 go_enter Tryz.func138,Tryz.ntmps138
 obtain ⟨p,hp⟩:∃ p,p=w.heap.size:=⟨_,rfl⟩
 obtain ⟨q,hq⟩:∃ q,q=w.heap.size+1:=⟨_,rfl⟩
 have e1:(w.alloc (.cells #[.bool S.lv,.int .i64 S.lo,.int .i64 S.hi,.slice D.A S.cs.length D.c,.int .i64 S.hd,.int .i64 S.sz,.slice D.A2 S.l.length D.c2,.slice D.A3 S.h.length D.c3] 33)).heap.size=q:=by rw [hq];simp
 rw [e1] at Q0
 rw [←hp] at H0
 clear e1
 obtain ⟨t0,t1,t2,t3,t4,t5,t6,t7,tl⟩:=H0.out.s8.facts
 go_wp2_with fail
 clear t0 t1 t2 t3 t4 t5 t6 t7 tl
 rw [←hq,←hp]
 clear hp hq
 generalize ((w.alloc (.cells #[.bool S.lv,.int .i64 S.lo,.int .i64 S.hi,.slice D.A S.cs.length D.c,.int .i64 S.hd,.int .i64 S.sz,.slice D.A2 S.l.length D.c2,.slice D.A3 S.h.length D.c3] 33)).alloc (.cells #[.int .i64 H.id,.int .i64 H.gn,.int .i64 H.rt,.int .i64 H.ht] 40))=w1 at*
 refine (HV.out _ _ H0.out).mono ?_
 rintro e w2 ⟨rfl,hb⟩
 have H9:=Lh (H0.out.below hb)
 have Q9:=Lh (Q0.out.up hb)
 clear hb H0 Q0
 by_cases hz:exS S true=0
 ·obtain ⟨hv,hlv,-⟩:=exS_zero hz
  rw [hz]
  clear hz HX
  cases hb1:wi ep 0 65536 with
  | false=>
   have HX:=Lh (HR.out hv hlv (by rw [hb1];simp))
   rw [hb1] at HEP
   clear hv hlv HO HR hb1
   go_wp2_with fail
   refine (HEP.out _).mono ?_
   rintro e w3 ⟨rfl,rfl⟩
   go_wp2
   go_ret
   exact ⟨by rw [HX.out];rfl,H9.out.bel⟩
  | true=>
   cases hb2:wi now 0 1073741824 with
   | false=>
    have HX:=Lh (HR.out hv hlv (by rw [hb2];simp))
    rw [hb1] at HEP
    rw [hb2] at HTI
    clear hv hlv HO HR hb1 hb2
    go_wp2_with fail
    refine (HEP.out _).mono ?_
    rintro e w3 ⟨rfl,rfl⟩
    go_wp2_with fail
    refine (HTI.out _).mono ?_
    rintro e w3 ⟨rfl,rfl⟩
    go_wp2
    go_ret
    exact ⟨by rw [HX.out];rfl,H9.out.bel⟩
   | true=>
    rw [hb1] at HEP
    rw [hb2] at HTI
    cases g with
    | false=>
     have HX:=Lh (HR.out hv hlv rfl)
     clear hv hlv HO HR hb1 hb2
     go_wp2_with fail
     refine (HEP.out _).mono ?_
     rintro e w3 ⟨rfl,rfl⟩
     go_wp2_with fail
     refine (HTI.out _).mono ?_
     rintro e w3 ⟨rfl,rfl⟩
     go_wp2
     go_ret
     exact ⟨by rw [HX.out];rfl,H9.out.bel⟩
    | true=>
     have HX:=Lh (HO.out hv hlv (by rw [hb1,hb2];rfl))
     clear hv hlv HO HR hb1 hb2
     obtain ⟨t0,t1,t2,t3,t4,t5,t6,t7,tl⟩:=H9.out.s8.facts
     obtain ⟨q0,q1,q2,q3,ql⟩:=Q9.out
     go_wp2_with fail
     refine (HEP.out _).mono ?_
     rintro e w3 ⟨rfl,rfl⟩
     go_wp2_with fail
     refine (HTI.out _).mono ?_
     rintro e w3 ⟨rfl,rfl⟩
     go_wp2_with fail
     clear t0 t1 t2 t3 t4 t5 t6 t7 tl q0 q1 q2 q3 ql
     refine (HH.out _ _ H9.out).mono ?_
     rintro e w4 ⟨rfl,hb⟩
     have B:=Lh (H9.out.below hb).bel
     clear hb
     cases ho with
     | true=>
      go_wp2
      go_ret
      exact ⟨by rw [HX.out];rfl,B.out⟩
     | false=>
      go_wp2
      go_ret
      exact ⟨by rw [HX.out];rfl,B.out⟩
 ·have hne:(exS S true != 0)=true:=bne_iff_ne.2 hz
  have HY:=Lh (HX.out hz)
  clear hz HX HO HR
  generalize exS S true=z at*
  go_wp2
  go_ret
  exact ⟨by rw [HY.out];rfl,H9.out.bel⟩
end Go.Proofs.YtncgbldcjfbknaaGreat
