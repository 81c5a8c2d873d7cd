/- What is proved here: shardqueueref04.PushFront by a contract; shardqueueref03.Same of two lists that read alike is true; shardqueueref04.New and shardqueueref04.Same by contracts; RingOf of the statements' base makes a valid ring; RingOf of the statements' base makes a valid ring whose messages have routes of the span. -/
import Derived.Test.YtncgbldcjfbknaaGreatJ28
namespace Go.Proofs.YtncgbldcjfbknaaGreat
open Go.RowKit
set_option linter.unusedVariables false
theorem own_one {W:World} {base blk:Nat} {e:TypeId} {M:Msg} (h:W.heap[blk]? = some (.cells M.cs e (0,0))) (hb:base≤blk):W.ownsRow base e 7 (.slice (some ⟨blk,0,none⟩) 1 1) 1 M.l:=
 ⟨rfl,.inr ⟨blk,1,M.cs,rfl,hb,h,Nat.le_refl _,by unfold maxLen;omega,rfl,rfl⟩⟩
theorem own_front {W1:World} {base:Nat} {e:TypeId} {v:Value} {l:List Msg} {M:Msg} (h:W1.ownsRow base e 7 v (1+l.length) (M.l++lcs l)):W1.ownsRow base e 7 v (M::l).length (lcs (M::l)):=by
 rw [lcs_cons,List.length_cons,Nat.add_comm]
 exact h
attribute [local go_sem ↓] Go.wp_at_zero Go.wp_at_succ
set_option maxHeartbeats 8000000 in
set_option maxRecDepth 20000 in
theorem rpfront_any (A:Option Addr) (n c:Nat) (cs:List Msg) (hd sz:Int) (M:Msg) (w:World) (hv:Ls w w.heap.size (.slice A n c) cs) :
  Calls Tryz.prog 140 #[.agg #[.slice A n c,.int .i64 hd,.int .i64 sz],M.v] w (RP w (pfC cs hd sz M) (pfH cs hd sz M) (ifE (puE cs hd sz M) (sz+1)) (puE cs hd sz M)):=by
 obtain ⟨rfl,_,_⟩:=hv.len
 have HV:=Lh hv
 have HP:=Lh (fun w1 (h:Ls w1 w1.heap.size (.slice A cs.length c) cs)=>pushable_any A cs.length c cs hd sz M w1 h)
 obtain ⟨i0,hi0,hz0⟩:=Option.map_eq_some_iff.1 info_msg
 simp only [Prod.mk.injEq] at hz0
 have HI:=Lh hi0
 have HZ:=Lh hz0
 clear hv hi0 hz0
 by_cases h0:puE cs hd sz M=0
 ·have HC:=Lh (show pfC cs hd sz M=fil cs.length ((hd.toNat+(cs.length - 1)) % cs.length) (M::ord cs hd.toNat sz.toNat) from if_pos h0)
  have HE1':=Lh (show pfH cs hd sz M=(((hd.toNat+(cs.length - 1)) % cs.length:Nat):Int) from if_pos h0)
  rw [h0] at HP ⊢
  have HE2:=Lh (show ifE 0 (sz+1)=sz+1 from if_pos rfl)
  obtain ⟨hg,_,hne,_⟩:=puE_zero h0
  obtain ⟨hn,hz,_,_⟩:=rgV_zero hg
  obtain ⟨⟨n1,n2⟩,⟨k1,k2⟩,⟨s1,s2⟩⟩:=nm_of hn
  obtain ⟨hd,rfl⟩:=Int.eq_ofNat_of_zero_le k1
  obtain ⟨sz,rfl⟩:=Int.eq_ofNat_of_zero_le s1
  simp only [Int.toNat_natCast] at HC hz HE1'
  obtain ⟨m,hm⟩:∃ m,m=(hd+(cs.length - 1)) % cs.length:=⟨_,rfl⟩
  have hml:m<cs.length:=by rw [hm];exact Nat.mod_lt _ (by omega)
  have hnc:(cs.length:Int)≤12:=by omega
  have hhc:(hd:Int)<(cs.length:Int):=by omega
  have hnl0:¬(cs.length=0):=by omega
  have hnil:¬(cs=[]):=fun e=>by rw [e] at n1;simp at n1
  have hw1:IntKind.i64.wrap ((hd:Int)+(cs.length:Int))=(hd:Int)+(cs.length:Int):=IntWalk.i64_in _ (by omega)
  have hw2:IntKind.i64.wrap ((hd:Int)+(cs.length:Int) - 1)=(hd:Int)+(cs.length:Int) - 1:=IntWalk.i64_in _ (by omega)
  have hmt:((hd:Int)+(cs.length:Int) - 1).tmod (cs.length:Int)=(m:Int):=by
   rw [Int.tmod_eq_emod_of_nonneg (show 0≤(hd:Int)+(cs.length:Int) - 1 by omega),hm,show (hd:Int)+(cs.length:Int) - 1=((hd+(cs.length - 1):Nat):Int) by omega]
   simp
  rw [←hm] at HC HE1'
  have HE1:=HE1'
  clear HE1' hm
  have HO:=Lh (fun w1 (h:Ls w1 w1.heap.size (.slice A cs.length c) cs)=>rorder_own A cs.length c cs hd sz w1 h hn)
  have hol:=ord_len cs hd sz
  have HWI:=Lh (fun v A' n' c' w1 (hv:v=Value.slice A' n' c') (h:Ls w1 w1.heap.size v (M::ord cs hd sz))=>with_any A cs.length c hd sz m A' n' c' (M::ord cs hd sz) w1 (by omega) (by omega) (by simp;omega) (hv ▸ h))
  rw [←HC.out] at HWI
  have HLN:=Lh (show ((M::ord cs hd sz).length:Int)=(sz:Int)+1 by simp [hol])
  rw [HLN.out] at HWI
  have hlo:(ord cs hd sz).length≤12:=by omega
  generalize ord cs hd sz=l at*
  clear h0 hg hne hn hz HC hol HLN
  generalize pfC cs hd sz M=ds at*
  generalize pfH cs hd sz M=hx at*
  go_enter Tryz.func140,Tryz.ntmps140
  go_wp2_with fail
  have HS:=Lh (PbAt.start w A cs.length c hd sz M 27 56)
  obtain ⟨p,hp⟩:∃ p,p=w.heap.size:=⟨_,rfl⟩
  obtain ⟨q,hq⟩:∃ q,q=w.heap.size+1:=⟨_,rfl⟩
  obtain ⟨r,hr⟩:∃ r,r=w.heap.size+1+1:=⟨_,rfl⟩
  rw [←hr,←hq,←hp] at HS ⊢
  clear hp hq hr
  refine (HP.out _ (HV.out.up HS.out.bel)).mono ?_
  rintro e w1 ⟨rfl,hb⟩
  have HS1:=Lh (HS.out.below hb)
  obtain ⟨⟨r0,r1,r2,r3,r4,r5,hpl⟩,_,_⟩:=HS1.out.facts
  clear hb HS
  go_wp2
  clear r0 r1 r2 r3 r4 r5 hpl
  have HSM:=Lh (HS1.out.alloc (.cells M.cs 56))
  have HSA:=Lh HS1.out.drew.s10
  have HSB:=Lh HSM.out.drew.s10
  have HRL:=Lh HS1.out.rs.lt
  go_region_held3 (fun W=>W.cell? ⟨p,0,none⟩=some (.slice A cs.length c)∧W.cell? ⟨p,1,none⟩=some (.int .i64 hd)∧W.cell? ⟨p,2,none⟩=some (.int .i64 sz)∧W.cell? ⟨q,0,none⟩=some (.int .i64 M.id)∧W.cell? ⟨q,1,none⟩=some (.int .i64 M.rt)∧W.cell? ⟨q,2,none⟩=some (.int .i64 M.ep)∧W.cell? ⟨q,3,none⟩=some (.int .i64 M.ct)∧W.cell? ⟨q,4,none⟩=some (.int .i64 M.gn)∧W.cell? ⟨q,5,none⟩=some (.int .i64 M.st)∧W.cell? ⟨q,6,none⟩=some (.string M.bd))
   (first | with_reducible exact HSA.out | with_reducible exact HSB.out | with_reducible exact HSC.out | with_reducible exact HSD.out | with_reducible exact HSE.out | with_reducible exact HSF.out | with_reducible exact HSG.out)
   (first
   | (refine step_append_rd _ (by rfl) _ _ _ (by rfl) w1.heap.size 56 i0 _ 7 64 Tryz.underlying25 HI.out HZ.out.1 HZ.out.2.1 HZ.out.2.2 rfl (by omega) (.slice (some ⟨w4.heap.size,0,none⟩) 1 1) 1 M.l (by rfl) (own_one (heap_alloc_new w4 _) HBS4.out) _ As l.length cap (lcs l) (by rfl) (HRD4.out.alloc (Nat.le_refl _) _) (lcs_one l) (by unfold maxLen;omega) (by omega) (Nat.le_trans HBS4.out (by simp)) ?_;intro v5 w5 hown5 hgrow5 hat5;have HS5:=Lh ((HS4.out.alloc (.cells M.cs 56)).grown hgrow5 (fun k hk=>by simp [Value.ownBlock] at hk;have:=HRL.out;have:=HBS4.out;omega));have HOW5:=Lh (own_front hown5);have HL5:=Lh (Ls.of_own (own_front hown5));have HSE:=Lh HS5.out.s10;obtain ⟨A5,c5,hv5,_,_⟩:=HL5.out.form;obtain rfl:v5=.slice A5 (l.length+1) c5:=hv5;clear hown5 hgrow5 hat5)
   | (refine step_append_rd _ (by rfl) _ _ _ (by rfl) w1.heap.size 56 i0 _ 7 64 Tryz.underlying25 HI.out HZ.out.1 HZ.out.2.1 HZ.out.2.2 rfl (by omega) (.slice (some ⟨w1.heap.size,0,none⟩) 1 1) 1 M.l (by rfl) (own_one HNB4.out (Nat.le_refl _)) _ As l.length cap (lcs l) (by rfl) HRD4.out (lcs_one l) (by unfold maxLen;omega) (by omega) HBS4.out ?_;intro v5 w5 hown5 hgrow5 hat5;have HS5:=Lh (HS4.out.grown hgrow5 (fun k hk=>by simp [Value.ownBlock] at hk;have:=HRL.out;have:=HBS4.out;omega));have HOW5:=Lh (own_front hown5);have HL5:=Lh (Ls.of_own (own_front hown5));have HSE:=Lh HS5.out.s10;obtain ⟨A5,c5,hv5,_,_⟩:=HL5.out.form;obtain rfl:v5=.slice A5 (l.length+1) c5:=hv5;clear hown5 hgrow5 hat5)
   | (go_at_call 177;(with_reducible refine (HWI.out _ _ _ _ _ rfl HL5.out).mono ?_);rintro e w6 ⟨A6,c6,rfl,hnw,hl6,hb⟩;have HS6:=Lh (HS5.out.below hb);have HNW:=Lh hnw;have HL6:=Lh hl6;have HSF:=Lh HS6.out.s10;have HSG:=Lh (pb_set3 HS6.out (.slice A6 ds.length c6) (.int .i64 (m:Int)) (.int .i64 ((sz:Int)+1)));obtain ⟨_,_,⟨t0,t1,t2,t3,t4,t5,hrl⟩⟩:=HS6.out.facts;clear hnw hl6 hb)
   | (go_at_call 112;(with_reducible refine (HO.out _ (HV.out.up HS1.out.drew.bel)).mono ?_);rintro e w4 ⟨v,rfl,hown,hb⟩;obtain ⟨As,cap,rfl⟩:=own_form hown;have HS4:=Lh (PbAt.below (W:=w1) HS1.out (drew_below hb));have HO4:=Lh (own_low hown (show w1.heap.size≤(w1).drew.heap.size by first | exact Nat.le_refl _ | simp));have HBS4:=Lh (show w1.heap.size≤w4.heap.size from Nat.le_trans (show w1.heap.size≤(w1).drew.heap.size by first | exact Nat.le_refl _ | simp) hb.size);have HRD4:=Lh (Rd.of_own HO4.out);have HSC:=Lh HS4.out.s10;have HSD:=Lh (HS4.out.alloc (.cells M.cs 56)).s10;clear hown hb)
   | (go_at_call 112;(with_reducible refine (HO.out _ (HV.out.up HSM.out.drew.bel)).mono ?_);rintro e w4 ⟨v,rfl,hown,hb⟩;obtain ⟨As,cap,rfl⟩:=own_form hown;have HS4:=Lh (PbAt.below (W:=w1.alloc (.cells M.cs 56)) HSM.out (drew_below hb));have HO4:=Lh (own_low hown (show w1.heap.size≤(w1.alloc (.cells M.cs 56)).drew.heap.size by first | exact Nat.le_refl _ | simp));have HBS4:=Lh (show w1.heap.size≤w4.heap.size from Nat.le_trans (show w1.heap.size≤(w1.alloc (.cells M.cs 56)).drew.heap.size by first | exact Nat.le_refl _ | simp) hb.size);have HRD4:=Lh (Rd.of_own HO4.out);have HSC:=Lh HS4.out.s10;have HNB4:=Lh ((hb.block w1.heap.size (by simp)).trans (heap_alloc_new w1 _));clear hown hb))
  all_goals
   have HL:=Lh ((HL6.out.off3 HNW.out HS5.out.rs.lt (.slice A6 ds.length c6) (.int .i64 (m:Int)) (.int .i64 ((sz:Int)+1))).more (show w6.heap.size≤(((w6.setCell ⟨r,0,none⟩ (.slice A6 ds.length c6)).setCell ⟨r,1,none⟩ (.int .i64 (m:Int))).setCell ⟨r,2,none⟩ (.int .i64 ((sz:Int)+1))).heap.size by simp))
   have HB:=Lh (HS6.out.result A6 ds.length c6 (m:Int) ((sz:Int)+1))
   clear HSA HSB HSC HSE HSF HSG
   go_wp2
   exact bodyPost_ret (v:=.tuple #[.agg #[.slice A6 ds.length c6,.int .i64 (m:Int),.int .i64 ((sz:Int)+1)],.int .i64 0]) (by simp only [results,Tryz.results140];go_simp <;> rfl) rfl ⟨A6,c6,by rw [HE1.out,HE2.out],nw_low HNW.out HS5.out.bel.size,HL.out,HB.out⟩
 ·have HC:=Lh (show pfC cs hd sz M=[] from if_neg h0)
  have HE1:=Lh (show pfH cs hd sz M=0 from if_neg h0)
  have HE2:=Lh (show ifE (puE cs hd sz M) (sz+1)=0 from if_neg h0)
  have hne:(puE cs hd sz M != 0)=true:=bne_iff_ne.2 h0
  generalize puE cs hd sz M=x at*
  generalize pfC cs hd sz M=ds at*
  generalize pfH cs hd sz M=hx at*
  clear h0
  go_enter Tryz.func140,Tryz.ntmps140
  go_wp2_with fail
  have HS:=Lh (PbAt.start w A cs.length c hd sz M 27 56)
  obtain ⟨p,hp⟩:∃ p,p=w.heap.size:=⟨_,rfl⟩
  obtain ⟨q,hq⟩:∃ q,q=w.heap.size+1:=⟨_,rfl⟩
  obtain ⟨r,hr⟩:∃ r,r=w.heap.size+1+1:=⟨_,rfl⟩
  rw [←hr,←hq,←hp] at HS ⊢
  clear hp hq hr
  refine (HP.out _ (HV.out.up HS.out.bel)).mono ?_
  rintro e w1 ⟨rfl,hb⟩
  have HS1:=Lh (HS.out.below hb)
  obtain ⟨_,_,⟨t0,t1,t2,t3,t4,t5,hrl⟩⟩:=HS1.out.facts
  have HB:=Lh (HS1.out.result none 0 0 0 0)
  clear hb HS
  go_wp2
  exact bodyPost_ret (v:=.tuple #[.agg #[.slice none 0 0,.int .i64 0,.int .i64 0],.int .i64 x]) (by simp only [results,Tryz.results140];go_simp <;> rfl) rfl ⟨none,0,by rw [HC.out,HE1.out,HE2.out];rfl,nw_none,by rw [HC.out];exact Ls.nil,HB.out⟩
set_option maxHeartbeats 1000000 in
theorem rsame_yes (A A' : Option Addr) (n n' c c' : Nat) (l:List Msg) (w:World) (B B' : Nat) (hv:Ls w B (.slice A n c) l) (hv' : Ls w B' (.slice A' n' c') l) :
  Calls Tryz.prog 205 #[.slice A n c,.slice A' n' c'] w fun e w'=>e=.returned (.bool true)∧Below w.heap.size w w':=by
 obtain ⟨rfl,hm1,hm2⟩:=hv.len
 obtain ⟨rfl,hm1',hm2'⟩:=hv'.len
 have hL:l.length≤9223372036854775807:=by unfold maxLen at hm2;omega
 have HV:=Lh hv
 have HV':=Lh hv'
 have HB:=Lh (Below.refl w.heap.size w)
 clear hv hm1 hm2 hv' hm1' hm2'
 go_enter Tryz.func205,Tryz.ntmps205
 go_wp2
 go_loopw [5] (fun i wr=>∃ k:Nat,k≤l.length∧i=.int .i64 k∧Ls wr B (.slice A l.length c) l∧Ls wr B' (.slice A' l.length c') l∧Below w.heap.size w wr) (fun i _=>l.length - (intOf i).toNat)
 case atStart=>exact ⟨0,by omega,rfl,HV.out,HV'.out,HB.out⟩
 case round=>
  obtain ⟨k,hk,rfl,hv,hv',hb⟩:=hrel
  have HV:=Lh hv
  have HV':=Lh hv'
  have HB:=Lh hb
  clear hv hv' hb
  by_cases hlt:k<l.length
  ·obtain ⟨b,o,rfl,hb,hc⟩:=HV.out.at_ hlt
   obtain ⟨b',o',rfl,hb',hc'⟩:=HV'.out.at_ hlt
   generalize l[k]=M at*
   have hne:=neqm M
   obtain ⟨c0,c1,c2,c3,c4,c5,c6⟩:=hc
   obtain ⟨d0,d1,d2,d3,d4,d5,d6⟩:=hc'
   go_wp2
   go_quiet (fail)
   go_wp2
   go_roundw
   case rel=>exact ⟨k+1,by omega,by go_num,HV.out.drewN _,HV'.out.drewN _,below_drewN HB.out _⟩
   case measure=>simp [intOf];omega
  ·go_wp2
   go_ret
   exact ⟨rfl,HB.out⟩
set_option maxHeartbeats 2000000 in
theorem rnew4_any (k:Int) (w:World):Calls Tryz.prog 209 #[.int .i64 k] w (RP w (nwC k) 0 0 (nwE k)):=by
 have HB0:=Lh ((Below.refl w.heap.size w).alloc (Nat.le_refl _) (.cells #[.slice none 0 0,.int .i64 0,.int .i64 0] 27))
 by_cases a1:k<1
 ·have HC:=Lh (show nwC k=[] from if_neg (by rw [wi_low a1];decide))
  have HE:=Lh (show nwE k=1 from if_neg (by rw [wi_low a1];decide))
  go_enter Tryz.func209,Tryz.ntmps209
  go_wp2
  exact bodyPost_ret (v:=.tuple #[.agg #[.slice none 0 0,.int .i64 0,.int .i64 0],.int .i64 1]) (by simp only [results,Tryz.results209];go_simp <;> rfl) rfl ⟨none,0,by rw [HC.out,HE.out];rfl,nw_none,by rw [HC.out];exact Ls.nil,HB0.out⟩
 by_cases a2:(12:Int)<k
 ·have HC:=Lh (show nwC k=[] from if_neg (by rw [wi_high (lo:=1) a2];decide))
  have HE:=Lh (show nwE k=1 from if_neg (by rw [wi_high (lo:=1) a2];decide))
  go_enter Tryz.func209,Tryz.ntmps209
  go_wp2
  exact bodyPost_ret (v:=.tuple #[.agg #[.slice none 0 0,.int .i64 0,.int .i64 0],.int .i64 1]) (by simp only [results,Tryz.results209];go_simp <;> rfl) rfl ⟨none,0,by rw [HC.out,HE.out];rfl,nw_none,by rw [HC.out];exact Ls.nil,HB0.out⟩
 ·have h:wi k 1 12=true:=wi_true (by omega) (by omega)
  obtain ⟨k1,k2⟩:=wi_of h
  obtain ⟨k,rfl⟩:=Int.eq_ofNat_of_zero_le (show 0≤k by omega)
  have HC:=Lh (show nwC (k:Int)=(List.range k).map (fun _=>zM) from if_pos h)
  have HE:=Lh (show nwE (k:Int)=0 from if_pos h)
  have hmk:=run_make_msgs k (by omega)
  have hlen:(nwC (k:Int)).length=k:=by rw [HC.out];simp
  have HLN:=Lh hlen
  have HM:=Lh (MRow.made (w.alloc (.cells #[.slice (some ⟨w.heap.size+1,0,none⟩) k k,.int .i64 0,.int .i64 0] 27)) k 56)
  have HKM:=Lh (show k≤maxLen by unfold maxLen;omega)
  clear h hlen
  go_enter Tryz.func209,Tryz.ntmps209
  go_wp2
  exact bodyPost_ret (v:=.tuple #[.agg #[.slice (some ⟨w.heap.size+1,0,none⟩) k k,.int .i64 0,.int .i64 0],.int .i64 0]) (by simp only [results,Tryz.results209];go_simp <;> rfl) rfl ⟨some ⟨w.heap.size+1,0,none⟩,k,by rw [HLN.out,HE.out],nw_some (by omega),by rw [HLN.out];exact new_end HM.out HC.out HKM.out,((Below.refl _ _).alloc (Nat.le_refl _) _).alloc (by simp) _⟩
set_option maxHeartbeats 2000000 in
theorem gsame_yes (A A' : Option Addr) (n n' c c' : Nat) (hd sz:Int) (l:List Msg) (w:World) (B B' : Nat) (hB:B≤w.heap.size) (hB' : B'≤w.heap.size) (hv:Ls w B (.slice A n c) l) (hv' : Ls w B' (.slice A' n' c') l) :
  Calls Tryz.prog 178 #[.agg #[.slice A n c,.int .i64 hd,.int .i64 sz],.agg #[.slice A' n' c',.int .i64 hd,.int .i64 sz]] w fun e w'=>e=.returned (.bool true)∧Below w.heap.size w w':=by
 have HB:=Lh (((Below.refl w.heap.size w).alloc (Nat.le_refl _) (.cells #[.slice A n c,.int .i64 hd,.int .i64 sz] 27)).alloc (by simp) (.cells #[.slice A' n' c',.int .i64 hd,.int .i64 sz] 27))
 have HS:=Lh (fun w1 (h:Below w.heap.size w w1)=>rsame_yes A A' n n' c c' l w1 B B' (hv.keep fun p hp=>h.cell (Nat.lt_of_lt_of_le hp hB)) (hv'.keep fun p hp=>h.cell (Nat.lt_of_lt_of_le hp hB')))
 clear hv hv' hB hB'
 go_enter Tryz.func178,Tryz.ntmps178
 go_wp2_with fail
 refine (HS.out _ HB.out).mono ?_
 rintro e w1 ⟨rfl,hb⟩
 have HB1:=Lh (HB.out.trans (hb.mono HB.out.size))
 clear hb
 go_wp2
 go_ret
 exact ⟨rfl,HB1.out⟩
structure RoAt (w:World) (B g r y:Nat) (A:Option Addr) (k c hd:Nat) (L:List Msg) (W:World):Prop where
 rb:RB W y A k c hd L.length
 rs:RB W r none 0 0 0 0
 ls:Ls W W.heap.size (.slice A k c) (fil k hd L)
 src:SrcAt W B g
 grow:w.grownBy W (some g)
 nw:Nw (r+1) A
 offy:Off y A
 old:w.heap.size≤r∧r<y∧g<w.heap.size∧B≤g
section
variable {w W W' : World} {B g r y k c hd:Nat} {A:Option Addr} {L:List Msg}
theorem RoAt.drew (h:RoAt w B g r y A k c hd L W):RoAt w B g r y A k c hd L W.drew:=⟨h.rb.drew,h.rs.drew,h.ls,h.src,only_drew h.grow,h.nw,h.offy,h.old⟩
theorem RoAt.below (h:RoAt w B g r y A k c hd L W) (hb:Below W.heap.size W W'):RoAt w B g r y A k c hd L W':=
 ⟨h.rb.below hb h.rb.lt,h.rs.below hb h.rs.lt,(h.ls.below hb).more hb.size,h.src.below hb,only_below h.grow hb,h.nw,h.offy,h.old⟩
theorem RoAt.grownG (h:RoAt w B g r y A k c hd L W) (hs:SrcAt W' B g) (hg:W.grownBy W' (some g)):RoAt w B g r y A k c hd L W':=
 ⟨h.rb.grownG hg (by have:=h.old;omega),h.rs.grownG hg (by have:=h.old;omega),(h.ls.grownG hg (Nat.le_refl _) (off_nw h.nw (by have:=h.old;omega))).more hg.size,hs,h.grow.trans hg,h.nw,h.offy,h.old⟩
theorem RoAt.store {W1:World} {A1:Option Addr} {c1 hd1:Nat} {L1:List Msg} (h:RoAt w B g r y A k c hd L W) (hb:Below W.heap.size W W1) (hnw:Nw W.heap.size A1) (hl:Ls W1 W1.heap.size (.slice A1 k c1) (fil k hd1 L1)) (z:Int) (hz:z=(L1.length:Int)):RoAt w B g r y A1 k c1 hd1 L1 (((W1.setCell ⟨y,0,none⟩ (.slice A1 k c1)).setCell ⟨y,1,none⟩ (.int .i64 hd1)).setCell ⟨y,2,none⟩ (.int .i64 z)):=by
 subst hz
 have h1:=h.below hb
 have hy:y<W.heap.size:=h.rb.lt
 have hyr:y≠r:=by have:=h.old;omega
 have hyg:y≠g:=by have:=h.old;omega
 have hyB:B≤y:=by have:=h.old;omega
 refine ⟨((h1.rb.setA A1 k c1).setH hd1).setS L1.length,h1.rs.set3' hyr _ _ _,?_,((h1.src.other (p:=⟨y,0,none⟩) hyg hyB _).other (p:=⟨y,1,none⟩) hyg hyB _).other (p:=⟨y,2,none⟩) hyg hyB _,only_set (only_set (only_set h1.grow (.inr (by show w.heap.size≤y;have:=h.old;omega)) _) (.inr (by show w.heap.size≤y;have:=h.old;omega)) _) (.inr (by show w.heap.size≤y;have:=h.old;omega)) _,nw_low hnw (by have:=h.old;omega),off_nw hnw hy,h.old⟩
 have:=(hl.off3 hnw hy (.slice A1 k c1) (.int .i64 hd1) (.int .i64 L1.length))
 simpa using this
end
theorem ro_end {w W:World} {B g r y k c hd:Nat} {A:Option Addr} {L:List Msg} (h:RoAt w B g r y A k c hd L W):Nw w.heap.size A∧Ls (((W.setCell ⟨r,0,none⟩ (.slice A k c)).setCell ⟨r,1,none⟩ (.int .i64 hd)).setCell ⟨r,2,none⟩ (.int .i64 L.length)) (((W.setCell ⟨r,0,none⟩ (.slice A k c)).setCell ⟨r,1,none⟩ (.int .i64 hd)).setCell ⟨r,2,none⟩ (.int .i64 L.length)).heap.size (.slice A k c) (fil k hd L)∧SrcAt (((W.setCell ⟨r,0,none⟩ (.slice A k c)).setCell ⟨r,1,none⟩ (.int .i64 hd)).setCell ⟨r,2,none⟩ (.int .i64 L.length)) B g∧w.grownBy (((W.setCell ⟨r,0,none⟩ (.slice A k c)).setCell ⟨r,1,none⟩ (.int .i64 hd)).setCell ⟨r,2,none⟩ (.int .i64 L.length)) (some g):=by
 have hrg:r≠g:=by have:=h.old;omega
 have hrB:B≤r:=by have:=h.old;omega
 have hrw:w.heap.size≤r:=h.old.1
 refine ⟨nw_low h.nw (by omega),?_,((h.src.other (p:=⟨r,0,none⟩) hrg hrB _).other (p:=⟨r,1,none⟩) hrg hrB _).other (p:=⟨r,2,none⟩) hrg hrB _,only_set (only_set (only_set h.grow (p:=⟨r,0,none⟩) (.inr hrw) _) (p:=⟨r,1,none⟩) (.inr hrw) _) (p:=⟨r,2,none⟩) (.inr hrw) _⟩
 have:=h.ls.off3 h.nw (Nat.lt_succ_self r) (.slice A k c) (.int .i64 hd) (.int .i64 L.length)
 simpa using this
theorem rpback_good (A:Option Addr) (c k hd:Nat) (L:List Msg) (M:Msg) (w:World) (k1:1≤k) (k2:k≤12) (hh:hd<k) (hl:L.length<k) (hg:Gd L) (hM:vf M=0) (hi:∀ N∈L,N.id≠M.id) (hv:Ls w w.heap.size (.slice A k c) (fil k hd L)) :
  Calls Tryz.prog 131 #[.agg #[.slice A k c,.int .i64 hd,.int .i64 L.length],M.v] w (RP w (fil k hd (L++[M])) hd ((L.length:Int)+1) 0):=by
 have:=rpback_any A k c (fil k hd L) hd L.length M w hv
 rw [puE_fil k1 k2 hh hl hg hM hi,pbC_fil k1 k2 hh hl hg hM hi] at this
 simpa [ifE] using this
theorem rpfront_good (A:Option Addr) (c k hd:Nat) (L:List Msg) (M:Msg) (w:World) (k1:1≤k) (k2:k≤12) (hh:hd<k) (hl:L.length<k) (hg:Gd L) (hM:vf M=0) (hi:∀ N∈L,N.id≠M.id) (hv:Ls w w.heap.size (.slice A k c) (fil k hd L)) :
  Calls Tryz.prog 140 #[.agg #[.slice A k c,.int .i64 hd,.int .i64 L.length],M.v] w (RP w (fil k ((hd+(k - 1)) % k) (M::L)) ((hd+(k - 1)) % k:Nat) ((L.length:Int)+1) 0):=by
 have:=rpfront_any A k c (fil k hd L) hd L.length M w hv
 rw [puE_fil k1 k2 hh hl hg hM hi,(pfC_fil k1 k2 hh hl hg hM hi).1,(pfC_fil k1 k2 hh hl hg hM hi).2] at this
 simpa [ifE] using this
def SrRingR (B g k:Nat) (n id lo hi:Int) (w:World) (e:Ending) (w' : World):Prop:=∃ (A:Option Addr) (c hd:Nat) (L:List Msg),e=.returned (.agg #[.slice A k c,.int .i64 hd,.int .i64 L.length])∧Nw w.heap.size A∧Ls w' w'.heap.size (.slice A k c) (fil k hd L)∧hd<k∧L.length≤k∧(L.length:Int)≤n∧Gd L∧(∀ M∈L,id≤M.id∧M.id<id+L.length∧lo≤M.rt∧M.rt≤hi)∧SrcAt w' B g∧w.grownBy w' (some g)
theorem msg_rt {M:Msg} {id lo hi:Int} (h1:M.rt=intoF (rtF id) lo hi) (l0:0≤lo) (l1:lo≤hi) (l2:hi≤65535):lo≤M.rt∧M.rt≤hi:=by
 have hr:=rtF_lt id
 have:=into_span (rtF id) lo hi hr.1 hr.2 l0 l2 l1
 omega
set_option maxHeartbeats 8000000 in
set_option maxRecDepth 20000 in
theorem ringofR_any (B g:Nat) (w:World) (h:SrcAt w B g) (k:Nat) (n id lo hi:Int) (k1:1≤k) (k2:k≤12) (n0:0≤n) (n1:n≤12) (i1:1≤id) (i2:id≤1000000) (l0:0≤lo) (l1:lo≤hi) (l2:hi≤65535) :
  Calls Tryz.prog 184 #[.pointer (some ⟨g,0,none⟩),.int .i64 k,.int .i64 n,.int .i64 id,.int .i64 lo,.int .i64 hi] w (SrRingR B g k n id lo hi w):=by
 have H:=Lh h
 have HN:=Lh (fun w=>rnew4_any (k:Int) w)
 have HNC:=Lh (fun hd hh=>nwC_fil k1 k2 hd hh)
 have hnl:(nwC (k:Int)).length=k:=by rw [(nwC_fil k1 k2 0 (by omega)).1,fil_len]
 rw [(nwC_fil k1 k2 0 (by omega)).2] at HN
 have HNL:=Lh hnl
 have HGW:=Lh (show g<w.heap.size from h.2.1)
 have HBG:=Lh (show B≤g from h.1)
 have k1' : (1:Int)≤(k:Int):=by omega
 have k2' : (k:Int)≤12:=by omega
 clear h hnl
 generalize nwC (k:Int)=cs at*
 go_enter Tryz.func184,Tryz.ntmps184
 go_wp2_with fail
 have HR0:=Lh (RB.fresh w none 0 0 0 0 27)
 obtain ⟨r,hr⟩:∃ r,r=w.heap.size:=⟨_,rfl⟩
 have HRR:=Lh hr
 rw [←hr] at HR0 ⊢
 clear hr
 refine (HN.out _).mono ?_
 rintro e w1 ⟨A1,c1,rfl,hnw,hl,hb⟩
 rw [HNL.out] at hl ⊢
 have HL1:=Lh hl
 have HA1:=Lh (show Nw (r+1) A1 from nw_low hnw (by have:=HRR.out;simp;omega))
 have HR1:=Lh (HR0.out.below hb HR0.out.lt)
 have HS1:=Lh ((H.out.alloc _).below hb)
 have HG1:=Lh (only_below (only_alloc (World.grownBy.refl w (some g)) _) hb)
 have HY1:=Lh (RB.fresh w1 A1 k c1 0 0 27)
 clear hnw hl hb
 go_wp2_with fail
 obtain ⟨y,hy⟩:∃ y,y=w1.heap.size:=⟨_,rfl⟩
 have HYY:=Lh hy
 rw [←hy] at HY1 ⊢
 clear hy
 refine (n_any B g _ (HS1.out.alloc _) k (by omega) (by omega)).mono ?_
 rintro e w2 ⟨hd,rfl,hd0,hd1,hs,hg⟩
 obtain ⟨hd,rfl⟩:=Int.eq_ofNat_of_zero_le hd0
 have HS2:=Lh hs
 have HG2:=Lh hg
 have HYG:=Lh (show y≠g by have:=HYY.out;have:=HS1.out.2.1;omega)
 have HRG:=Lh (show r≠g by have:=HRR.out;have:=HGW.out;omega)
 have HY2:=Lh (HY1.out.grownG hg HYG.out)
 have HR2:=Lh ((HR1.out.alloc (.cells #[.slice A1 k c1,.int .i64 0,.int .i64 0] 27)).grownG hg HRG.out)
 have HL2:=Lh ((HL1.out.alloc (Nat.le_refl _) (.cells #[.slice A1 k c1,.int .i64 0,.int .i64 0] 27)).grownG hg (by simp) (off_nw HA1.out (by have:=HRR.out;have:=HGW.out;omega)))
 obtain ⟨r0,r1,r2,r3,r4,r5,hpl⟩:=HY2.out.facts
 clear hs hg
 go_wp2_with fail
 obtain ⟨mn,hmn⟩:∃ mn,mn=min n (k:Int):=⟨_,rfl⟩
 rw [←hmn]
 have HMN:=Lh hmn
 have hm0:0≤mn:=by omega
 have hm1:mn≤12:=by omega
 have hmk:mn≤(k:Int):=by omega
 have hhd:hd<k:=by omega
 have HFC:=Lh (HNC.out hd hhd).1
 have HOY:=Lh (off_ls HL1.out (by rw [HNL.out];omega) (b:=y) (by rw [HYY.out];exact Nat.le_refl _))
 have HY0:=Lh (show r<y by have:=HYY.out;have:=HR1.out.lt;omega)
 have HRO:=Lh (RoAt.mk (w:=w) (B:=B) (g:=g) (L:=[]) (HY2.out.setH hd) (HR2.out.other (a:=⟨y,1,none⟩) (show y≠r by have:=HY0.out;omega) (.int .i64 hd)) (by rw [←HFC.out];have:=((HL2.out.off' (p:=⟨y,1,none⟩) HOY.out (.int .i64 hd)).more (show w1.heap.size≤(w2.setCell ⟨y,1,none⟩ (.int .i64 hd)).heap.size by have:=HG2.out.size;simp at this ⊢;omega));exact this) (HS2.out.other (p:=⟨y,1,none⟩) HYG.out (by have:=HRR.out;have:=HGW.out;have:=HBG.out;have:=HY0.out;show B≤y;omega) (.int .i64 hd)) (only_set ((only_alloc HG1.out _).trans HG2.out) (p:=⟨y,1,none⟩) (.inr (by show w.heap.size≤y;have:=HRR.out;have:=HY0.out;omega)) (.int .i64 hd)) HA1.out HOY.out ⟨by have:=HRR.out;omega,HY0.out,HGW.out,HBG.out⟩)
 clear r0 r1 r2 r3 r4 r5 hpl hmn HNC
 refine (n_any B g _ HRO.out.src (mn+1) (by omega) (by omega)).mono ?_
 rintro e w4 ⟨j,rfl,j0,j1,hs,hg⟩
 obtain ⟨j,rfl⟩:=Int.eq_ofNat_of_zero_le j0
 have HR4:=Lh (HRO.out.grownG hs hg)
 clear hs hg
 go_wp2
 go_loopw [3,15] (fun idv iv wr=>∃ (j:Nat) (A:Option Addr) (c hd:Nat) (L:List Msg),iv=.int .i64 j∧idv=.int .i64 (id+L.length)∧RoAt w B g r y A k c hd L wr∧hd<k∧(L.length:Int)+j≤mn∧Gd L∧∀ M∈L,id≤M.id∧M.id<id+L.length∧lo≤M.rt∧M.rt≤hi) (fun _ iv _=>(intOf iv).toNat)
 case atStart=>exact ⟨j,A1,c1,hd,[],rfl,by simp,HR4.out,hhd,by simp;omega,gd_nil,by simp⟩
 case round=>
  obtain ⟨j,A,c,hd,L,rfl,rfl,hro,hhk,hjm,hgd,hids⟩:=hrel
  have HR:=Lh hro
  clear hro
  by_cases hj:0<j
  ·have hlk:L.length<k:=by omega
   have hL12:(L.length:Int)≤12:=by omega
   go_wp2_with fail
   refine (n_any B g _ HR.out.src 2 (by omega) (by omega)).mono ?_
   rintro e w5 ⟨x,rfl,x0,x1,hs,hg⟩
   have HR5:=Lh (HR.out.grownG hs hg)
   clear hs hg
   by_cases hx:x=0
   ·subst hx
    have HGD:=Lh hgd
    have HID:=Lh hids
    obtain ⟨r0,r1,r2,r3,r4,r5,hpl⟩:=HR5.out.rb.facts
    clear hgd hids
    go_wp2
    go_region_with
     (first
     | (go_at_call 36;(with_reducible refine (message_any B g _ (HR5.out.drew.src) (id+L.length) lo hi).mono ?_);rintro e w6 ⟨M,rfl,m0,m1,m2,m3,m4,m5,m6,hs,hg⟩;have HM:=Lh (msg_ok m0 m1 m2 m3 m4 m5 m6 (by omega) (by omega) l0 l1 l2);have HMI:=Lh m0;have HMR:=Lh (msg_rt m1 l0 l1 l2);have HR6:=Lh (HR5.out.drew.grownG hs hg);obtain ⟨q0,q1,q2,q3,q4,q5,hql⟩:=HR6.out.rb.facts;have HPB:=Lh (rpback_good A c k hd L M w6 k1 k2 hhk hlk HGD.out HM.out (fun N hN=>by have:=(HID.out N hN).2;have:=HMI.out;omega) HR6.out.ls);clear m0 m1 m2 m3 m4 m5 m6 hs hg)
     | (go_at_call 131;(with_reducible refine HPB.out.mono ?_);rintro e w7 ⟨A7,c7,rfl,hnw,hl,hb⟩;rw [fil_len] at hl ⊢;have HR7:=Lh (HR6.out.store hb hnw hl ((L.length:Int)+1) (by simp));obtain ⟨t0,t1,t2,t3,t4,t5,htl⟩:=(HR6.out.below hb).rb.facts;clear hnw hl hb))
    all_goals
     have HGE:=Lh (gd_back HGD.out HM.out (fun N hN=>by have:=(HID.out N hN).2;have:=HMI.out;omega))
     have HIE:=Lh (show ∀ N∈L++[M],id≤N.id∧N.id<id+(L++[M]).length∧lo≤N.rt∧N.rt≤hi from fun N hN=>by
      rcases List.mem_append.1 hN with h | h
      ·have:=HID.out N h;simp;omega
      ·rw [List.mem_singleton.1 h];have:=HMI.out;have:=HMR.out;simp;omega)
     clear q0 q1 q2 q3 q4 q5 hql t0 t1 t2 t3 t4 t5 htl r0 r1 r2 r3 r4 r5 hpl
     go_wp2
     go_roundw
     case rel=>exact ⟨j - 1,A7,c7,hd,L++[M],by rw [show ((j - 1:Nat):Int)=(j:Int) - 1 by omega],by simp;omega,HR7.out,hhk,by simp;omega,HGE.out,HIE.out⟩
     case measure=>simp [intOf];omega
   ·have hx' : (x==0)=false:=beq_eq_false_iff_ne.2 hx
    have HGD:=Lh hgd
    have HID:=Lh hids
    obtain ⟨r0,r1,r2,r3,r4,r5,hpl⟩:=HR5.out.rb.facts
    clear hgd hids
    go_wp2
    go_region_with
     (first
     | (go_at_call 36;(with_reducible refine (message_any B g _ (HR5.out.drew.src) (id+L.length) lo hi).mono ?_);rintro e w6 ⟨M,rfl,m0,m1,m2,m3,m4,m5,m6,hs,hg⟩;have HM:=Lh (msg_ok m0 m1 m2 m3 m4 m5 m6 (by omega) (by omega) l0 l1 l2);have HMI:=Lh m0;have HMR:=Lh (msg_rt m1 l0 l1 l2);have HR6:=Lh (HR5.out.drew.grownG hs hg);obtain ⟨q0,q1,q2,q3,q4,q5,hql⟩:=HR6.out.rb.facts;have HPB:=Lh (rpfront_good A c k hd L M w6 k1 k2 hhk hlk HGD.out HM.out (fun N hN=>by have:=(HID.out N hN).2;have:=HMI.out;omega) HR6.out.ls);clear m0 m1 m2 m3 m4 m5 m6 hs hg)
     | (go_at_call 140;(with_reducible refine HPB.out.mono ?_);rintro e w7 ⟨A7,c7,rfl,hnw,hl,hb⟩;rw [fil_len] at hl ⊢;have HR7:=Lh (HR6.out.store hb hnw hl ((L.length:Int)+1) (by simp));obtain ⟨t0,t1,t2,t3,t4,t5,htl⟩:=(HR6.out.below hb).rb.facts;clear hnw hl hb))
    all_goals
     have HGE:=Lh (gd_front HGD.out HM.out (fun N hN=>by have:=(HID.out N hN).2;have:=HMI.out;omega))
     have HIE:=Lh (show ∀ N∈M::L,id≤N.id∧N.id<id+(M::L).length∧lo≤N.rt∧N.rt≤hi from fun N hN=>by
      rcases List.mem_cons.1 hN with h | h
      ·rw [h];have:=HMI.out;have:=HMR.out;simp;omega
      ·have:=HID.out N h;simp;omega)
     clear q0 q1 q2 q3 q4 q5 hql t0 t1 t2 t3 t4 t5 htl r0 r1 r2 r3 r4 r5 hpl
     go_wp2
     go_roundw
     case rel=>exact ⟨j - 1,A7,c7,(hd+(k - 1)) % k,M::L,by rw [show ((j - 1:Nat):Int)=(j:Int) - 1 by omega],by simp;omega,HR7.out,Nat.mod_lt _ (by omega),by simp;omega,HGE.out,HIE.out⟩
     case measure=>simp [intOf];omega
  ·obtain rfl:j=0:=by omega
   obtain ⟨r0,r1,r2,r3,r4,r5,hpl⟩:=HR.out.rb.facts
   obtain ⟨t0,t1,t2,t3,t4,t5,htl⟩:=HR.out.rs.facts
   have hyr:y≠r:=by have:=HY0.out;omega
   have hry:r≠y:=fun e=>hyr e.symm
   have HE:=Lh (ro_end HR.out)
   have HN1:=Lh (show (L.length:Int)≤n by have:=HMN.out;omega)
   have HGD:=Lh hgd
   have HID:=Lh hids
   clear hgd hids
   go_wp2
   exact bodyPost_ret (v:=.agg #[.slice A k c,.int .i64 hd,.int .i64 L.length]) (by simp only [results,Tryz.results184];go_simp <;> rfl) rfl ⟨A,c,hd,L,rfl,HE.out.1,HE.out.2.1,hhk,by omega,HN1.out,HGD.out,HID.out,HE.out.2.2.1,HE.out.2.2.2⟩
end Go.Proofs.YtncgbldcjfbknaaGreat
