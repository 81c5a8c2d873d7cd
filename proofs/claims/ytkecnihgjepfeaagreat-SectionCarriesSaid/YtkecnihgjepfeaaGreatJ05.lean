/- What is proved here: parts of the proof: Rvl Rvd Rvr Rgp Med Rpe. -/
import Derived.Test.YtkecnihgjepfeaaGreatJ04
namespace Go.Proofs.YtkecnihgjepfeaaGreat
open Go.RowKit
set_option linter.unusedVariables false
set_option linter.unusedSimpArgs false
set_option maxHeartbeats 8000000
set_option maxRecDepth 20000
theorem gnums_any (A:Option Addr) (n c:Nat) (hd sz:Int) (w:World) (hm:n<=maxLen) :
  Calls Tryz.prog 170 #[.agg #[.slice A n c,.int .i64 hd,.int .i64 sz]] w fun e w'=>e=.returned (.bool (nmB n hd sz))/\Below w.heap.size w w':=by
 have HB:=Lh ((Below.refl w.heap.size w).alloc (nLR _) (.cells #[.slice A n c,.int .i64 hd,.int .i64 sz] 66))
 have hcs:∀ (x lo hi:Int) (k:Bool),wi x lo hi=k->Hid (∀ w,Calls Tryz.prog 108 #[.int .i64 x,.int .i64 lo,.int .i64 hi] w fun e w'=>e=.returned (.bool k)/\w=w'):=fun x lo hi k h=>Lh (fun w=>by rw [<-h];exact gwithin_any x lo hi w)
 have hf:∀ k,nmB n hd sz=k->∀ e:Ending,e=.returned (.bool k)->e=.returned (.bool (nmB n hd sz)):=fun k h e he=>by rw [h];exact he
 have hm' : (n:Int)<=9223372036854775807:=by unfold maxLen at hm;omega
 have h0n:(0:Int)<=(n:Int):=by omega
 clear hm
 cases h0:wi n 1 12 with
 | false=>
  have H0:=hcs _ _ _ _ h0
  have HF:=Lh (hf false (by simp [nmB,h0]))
  clear hcs hf h0
  go_enter Tryz.func170,Tryz.ntmps170
  go_wp2_with fail
  refine (H0.out _).mono ?_
  rintro e w1 ⟨rfl,rfl⟩
  go_wp2
  go_ret
  exact ⟨HF.out _ rfl,HB.out⟩
 | true=>
  have H0:=hcs _ _ _ _ h0
  cases h1:wi hd 0 ((n:Int) - 1) with
  | false=>
   have H1:=hcs _ _ _ _ h1
   have HF:=Lh (hf false (by simp [nmB,h0,h1]))
   clear hcs hf h0 h1
   go_enter Tryz.func170,Tryz.ntmps170
   go_wp2_with fail
   refine (H0.out _).mono ?_
   rintro e w1 ⟨rfl,rfl⟩
   go_wp2_with fail
   refine (H1.out _).mono ?_
   rintro e w1 ⟨rfl,rfl⟩
   go_wp2
   go_ret
   exact ⟨HF.out _ rfl,HB.out⟩
  | true=>
   have H1:=hcs _ _ _ _ h1
   cases h2:wi sz 0 n with
   | false=>
    have H2:=hcs _ _ _ _ h2
    have HF:=Lh (hf false (by simp [nmB,h0,h1,h2]))
    clear hcs hf h0 h1 h2
    go_enter Tryz.func170,Tryz.ntmps170
    go_wp2_with fail
    refine (H0.out _).mono ?_
    rintro e w1 ⟨rfl,rfl⟩
    go_wp2_with fail
    refine (H1.out _).mono ?_
    rintro e w1 ⟨rfl,rfl⟩
    go_wp2_with fail
    refine (H2.out _).mono ?_
    rintro e w1 ⟨rfl,rfl⟩
    go_wp2
    go_ret
    exact ⟨HF.out _ rfl,HB.out⟩
   | true=>
    have H2:=hcs _ _ _ _ h2
    have HF:=Lh (hf true (by simp [nmB,h0,h1,h2]))
    clear hcs hf h0 h1 h2
    go_enter Tryz.func170,Tryz.ntmps170
    go_wp2_with fail
    refine (H0.out _).mono ?_
    rintro e w1 ⟨rfl,rfl⟩
    go_wp2_with fail
    refine (H1.out _).mono ?_
    rintro e w1 ⟨rfl,rfl⟩
    go_wp2_with fail
    refine (H2.out _).mono ?_
    rintro e w1 ⟨rfl,rfl⟩
    go_wp2
    go_ret
    exact ⟨HF.out _ rfl,HB.out⟩
open Classical in
noncomputable def zfB (cs:List Msg) (hd sz:Nat):Bool:=decide (∀ k,sz<=k->k<cs.length->cel cs hd k=zM)
open Classical in
theorem zfB_yes {cs:List Msg} {hd sz:Nat} (h:∀ k,sz<=k->k<cs.length->cel cs hd k=zM):zfB cs hd sz=true:=decide_eq_true h
open Classical in
theorem zfB_no {cs:List Msg} {hd sz k:Nat} (h1:sz<=k) (h2:k<cs.length) (h:cel cs hd k≠zM):zfB cs hd sz=false:=decide_eq_false (fun g=>h (g k h1 h2))
open Classical in
theorem zfB_of {cs:List Msg} {hd sz:Nat} (h:zfB cs hd sz=true):∀ k,sz<=k->k<cs.length->cel cs hd k=zM:=of_decide_eq_true h
open Classical in
theorem zfB_not {cs:List Msg} {hd sz:Nat} (h:zfB cs hd sz=false):¬∀ k,sz<=k->k<cs.length->cel cs hd k=zM:=of_decide_eq_false h
theorem RgAt.step {w W W' : World} {p n c b m:Nat} {A:Option Addr} {hd sz:Int} {X:Msg} (h:RgAt w p A n c hd sz W) (hc:C7 W b m X) (hbw:b<W.heap.size) (hb:Below W.heap.size W W') :
  Hid (RgAt w p A n c hd sz W')/\(W'.cell? ⟨p,0,none⟩=some (.slice A n c)/\W'.cell? ⟨p,1,none⟩=some (.int .i64 hd)/\W'.cell? ⟨p,2,none⟩=some (.int .i64 sz)/\p<W'.heap.size)/\C7 W' b m X:=
 ⟨Lh (h.below hb),(h.below hb).facts,hc.below hb hbw⟩
theorem zfree_any (A:Option Addr) (n c:Nat) (cs:List Msg) (hd sz:Nat) (w:World) (hv:Ls w w.heap.size (.slice A n c) cs) (hn:nmB cs.length hd sz=true) :
  Calls Tryz.prog 171 #[.agg #[.slice A n c,.int .i64 hd,.int .i64 sz]] w fun e w'=>e=.returned (.bool (zfB cs hd sz))/\Below w.heap.size w w':=by
 obtain ⟨rfl,hm1,hm2⟩:=hv.len
 obtain ⟨⟨n1,n2⟩,⟨h1,h2⟩,⟨s1,s2⟩⟩:=nm_of hn
 have HV:=Lh hv
 clear hv hn
 go_enter Tryz.func171,Tryz.ntmps171
 go_wp2
 have HS:=Lh (RgAt.start w A cs.length c hd sz 66)
 obtain ⟨p,hp⟩:∃ p,p=w.heap.size:=⟨_,rfl⟩
 rw [<-hp] at HS ⊢
 have HPP:=Lh hp
 clear hp
 go_loopw [3] (fun i wr=>∃ k:Nat,k<=cs.length/\sz<=k/\i=.int .i64 k/\RgAt w p A cs.length c hd sz wr/\∀ j,sz<=j->j<k->cel cs hd j=zM) (fun i _=>cs.length - (intOf i).toNat)
 case atStart=>exact ⟨sz,by omega,nLR _,rfl,HS.out,fun j h h'=>absurd h (by omega)⟩
 case round=>
  obtain ⟨k,hk,hsk,rfl,hr,hz⟩:=hrel
  have HR:=Lh hr
  have HZ:=Lh hz
  have HVK:=Lh (HV.out.below hr.bel)
  obtain ⟨r0,r1,r2,hpl⟩:=hr.facts
  clear hr hz
  by_cases hlt:k<cs.length
  ·obtain ⟨m,hm⟩:∃ m,m=(hd+k) % cs.length:=⟨_,rfl⟩
   have hml:m<cs.length:=by rw [hm];exact Nat.mod_lt _ (by omega)
   have HX:=Lh (cel_get (by omega) m hm hml)
   have HPL:=Lh (fun w=>place_any A cs.length c hd sz k (by omega) (by omega) (by omega) (by omega) (by omega) (by omega) w)
   have hmi:((hd:Int)+(k:Int)) % (cs.length:Int)=(m:Int):=by rw [hm];simp
   rw [hmi] at HPL
   obtain ⟨b,o,rfl,hb,hc⟩:=HVK.out.at_ hml
   generalize cs[m]=X at*
   have hbw:b<wr.heap.size:=by have:=HPP.out;omega
   have HST:=Lh (fun w1 (hb1:Below wr.drew.heap.size wr.drew w1)=>RgAt.step (X:=X) HR.out hc hbw (drew_below hb1))
   clear hm hmi hb hc
   by_cases he:X=zM
   ·have hne:∀ W,(binOp .neq 79 X.v (.agg #[.int .i64 0,.int .i64 0,.int .i64 0,.int .i64 0,.int .i64 0,.int .i64 0,.string ⟨#[]⟩])).run Tryz.prog W=.ok (.bool false) W:=by rw [he];exact neqm zM
    have HE:=Lh he
    clear he
    go_wp2
    go_region_with ((go_at_call 184;refine (HPL.out _).mono ?_;rintro e w1 ⟨rfl,hb1⟩;obtain ⟨HR1,⟨x0,x1,x2,hpl1⟩,⟨d0,d1,d2,d3,d4,d5,d6⟩⟩:=HST.out _ hb1;clear hb1))
    all_goals
     clear d0 d1 d2 d3 d4 d5 d6
     go_wp2
     go_roundw
     case rel=>
      refine ⟨k+1,by omega,by omega,by go_num,HR1.out,fun j h h'=>?_⟩
      by_cases e:j=k
      ·rw [e,<-HX.out,HE.out]
      ·exact HZ.out j h (by omega)
     case measure=>simp [intOf];omega
   ·have hne:∀ W,(binOp .neq 79 X.v (.agg #[.int .i64 0,.int .i64 0,.int .i64 0,.int .i64 0,.int .i64 0,.int .i64 0,.string ⟨#[]⟩])).run Tryz.prog W=.ok (.bool true) W:=neqm_ne X zM he
    have HF:=Lh (zfB_no hsk hlt (by rw [<-HX.out];exact he))
    clear he
    go_wp2
    go_region_with ((go_at_call 184;refine (HPL.out _).mono ?_;rintro e w1 ⟨rfl,hb1⟩;obtain ⟨HR1,⟨x0,x1,x2,hpl1⟩,⟨d0,d1,d2,d3,d4,d5,d6⟩⟩:=HST.out _ hb1;clear hb1))
    all_goals
     clear d0 d1 d2 d3 d4 d5 d6
     go_wp2
     go_ret
     exact ⟨by rw [HF.out];rfl,HR1.out.bel⟩
  ·have HF:=Lh (zfB_yes (cs:=cs) (hd:=hd) (sz:=sz) (fun j h h'=>HZ.out j h (by omega)))
   go_wp2
   go_ret
   exact ⟨by rw [HF.out];rfl,HR.out.bel⟩
end Go.Proofs.YtkecnihgjepfeaaGreat
namespace Go.Proofs.YtkecnihgjepfeaaGreat
open Go.RowKit
set_option linter.unusedVariables false
set_option linter.unusedSimpArgs false
set_option maxHeartbeats 8000000
set_option maxRecDepth 20000
open Classical in
noncomputable def dpB (l:List Msg):Bool:=decide (dupP l)
open Classical in
theorem dpB_yes {l:List Msg} (h:dupP l):dpB l=true:=decide_eq_true h
open Classical in
theorem dpB_no {l:List Msg} (h:¬dupP l):dpB l=false:=decide_eq_false h
open Classical in
theorem dpB_of {l:List Msg} (h:dpB l=true):dupP l:=of_decide_eq_true h
open Classical in
theorem dpB_not {l:List Msg} (h:dpB l=false):¬dupP l:=of_decide_eq_false h
theorem dup_take {l:List Msg} {k:Nat} (hk:k<l.length) (h:0<=ixF (l.take k) l[k].id):dupP l:=by
 rcases ixF_cases (l.take k) l[k].id with ⟨e,_⟩ | ⟨j,hj,e,hi,_⟩
 ·rw [e] at h;exact absurd h (by decide)
 ·have hj' : j<k:=by simp at hj;omega
  exact ⟨j,k,by omega,hk,hj',by simpa using hi⟩
theorem dup_not_take {l:List Msg} {k:Nat} (hk:k<l.length) (h:¬0<=ixF (l.take k) l[k].id):∀ i (hi:i<l.length),i<k->l[i].id≠l[k].id:=by
 intro i hi hik e
 refine h ((ixF_ge _ _).2 ⟨l[i],?_,e⟩)
 rw [List.mem_take_iff_getElem]
 exact ⟨i,by omega,rfl⟩
theorem sameid_any (A:Option Addr) (n c:Nat) (l:List Msg) (w:World) (hv:Ls w w.heap.size (.slice A n c) l) :
  Calls Tryz.prog 172 #[.slice A n c] w fun e w'=>e=.returned (.bool (dpB l))/\Below w.heap.size w w':=by
 obtain ⟨rfl,hm1,hm2⟩:=hv.len
 have hL:l.length<=9223372036854775807:=by unfold maxLen at hm2;omega
 have HC:=Lh hm1
 have HV:=Lh hv
 have HB:=Lh (Below.refl w.heap.size w)
 clear hv hm1 hm2
 go_enter Tryz.func172,Tryz.ntmps172
 go_wp2
 go_loopw [7] (fun i wr=>∃ k:Nat,k<=l.length/\i=.int .i64 k/\Below w.heap.size w wr/\∀ i j (hi:i<l.length) (hj:j<l.length),i<j->j<k->l[i].id≠l[j].id) (fun i _=>l.length - (intOf i).toNat)
 case atStart=>exact ⟨0,by omega,rfl,HB.out,fun i j _ _ _ h=>absurd h (by omega)⟩
 case round=>
  obtain ⟨k,hk,rfl,hb,hno⟩:=hrel
  have HN:=Lh hno
  have HVK:=Lh (HV.out.below hb)
  have HB:=Lh hb
  clear hno hb
  by_cases hlt:k<l.length
  ·have HD:=Lh (fun h=>dup_take hlt h)
   have HT:=Lh (fun h=>dup_not_take hlt h)
   have hcut:=run_lupto A l.length c .i64 k (by have:=HC.out;omega)
   have HVA:=Lh ((((HVK.out.alloc HB.out.size (.cells (l[k]).cs 79)).upto k hk).drew).more (show w.heap.size<=(wr.alloc (.cells (l[k]).cs 79)).drew.heap.size by have:=HB.out.size;simp;omega))
   have HBA:=Lh (HB.out.alloc HB.out.size (.cells (l[k]).cs 79))
   obtain ⟨b,o,rfl,hb,c0,c1,c2,c3,c4,c5,c6⟩:=HVK.out.at_ hlt
   by_cases he:0<=ixF (l.take k) l[k].id
   ·have HY:=Lh (dpB_yes (HD.out he))
    generalize hX:l[k]=X at*
    have HX:=Lh hX
    have HFD:=Lh (fun w1 (h:Ls w1 w1.heap.size (.slice (some ⟨b,o,none⟩) k c) (l.take k))=>find_any _ _ _ _ X.id w1 h)
    generalize ixF (l.take k) X.id=r at*
    clear hX
    go_wp2
    go_region_with ((go_at_call 189;refine (HFD.out _ HVA.out).mono ?_;rintro e w1 ⟨rfl,hb1⟩;have HB1:=Lh (HBA.out.trans ((drew_below hb1).mono HBA.out.size));clear hb1))
    all_goals
     go_wp2
     go_ret
     exact ⟨by rw [HY.out];rfl,HB1.out⟩
   ·have HNN:=Lh (HT.out he)
    have hge:=Lh (ixF_lt (l.take k) l[k].id).1
    generalize hX:l[k]=X at*
    have HX:=Lh hX
    have HFD:=Lh (fun w1 (h:Ls w1 w1.heap.size (.slice (some ⟨b,o,none⟩) k c) (l.take k))=>find_any _ _ _ _ X.id w1 h)
    generalize ixF (l.take k) X.id=r at*
    have hr:r = -1:=by have:=hge.out;omega
    subst hr
    clear hX he hge
    go_wp2
    go_region_with ((go_at_call 189;refine (HFD.out _ HVA.out).mono ?_;rintro e w1 ⟨rfl,hb1⟩;have HB1:=Lh (HBA.out.trans ((drew_below hb1).mono HBA.out.size));clear hb1))
    all_goals
     go_wp2
     go_roundw
     case rel=>
      refine ⟨k+1,by omega,by go_num,HB1.out,fun i j hi hj hij hjk=>?_⟩
      by_cases e:j=k
      ·subst e
       rw [HX.out]
       exact HNN.out i hi hij
      ·exact HN.out i j hi hj hij (by omega)
     case measure=>simp [intOf];omega
  ·have HY:=Lh (dpB_no (l:=l) (by rintro ⟨i,j,hi,hj,hij,e⟩;exact HN.out i j hi hj hij (by omega) e))
   go_wp2
   go_ret
   exact ⟨by rw [HY.out];rfl,HB.out⟩
end Go.Proofs.YtkecnihgjepfeaaGreat
namespace Go.Proofs.YtkecnihgjepfeaaGreat
open Go.RowKit
set_option linter.unusedVariables false
set_option linter.unusedSimpArgs false
set_option maxHeartbeats 8000000
set_option maxRecDepth 20000
theorem ret_i64 {a b:Int} (h:a=b):Ending.returned (.int .i64 a)=.returned (.int .i64 b):=by rw [h]
def VlT (w:World) (r:Int) (e:Ending) (w' : World):Prop:=e=.returned (.int .i64 r)/\Below w.heap.size w w'
theorem gvalid_any (A:Option Addr) (n c:Nat) (cs:List Msg) (hd sz:Int) (w:World) (hv:Ls w w.heap.size (.slice A n c) cs) :
  Calls Tryz.prog 159 #[.agg #[.slice A n c,.int .i64 hd,.int .i64 sz]] w (VlT w (rgV cs hd sz)):=by
 obtain ⟨rfl,hm1,hm2⟩:=hv.len
 have HN:=Lh (fun w=>gnums_any A cs.length c hd sz w (by omega))
 have HV:=Lh hv
 clear hm1 hm2
 have HS:=Lh (RgAt.start w A cs.length c hd sz 66)
 have HB0:=Lh HS.out.bel
 cases h0:nmB cs.length hd sz with
 | false=>
  have HF:=Lh (rgV_num h0)
  rw [h0] at HN
  clear hv h0 HS
  go_enter Tryz.func159,Tryz.ntmps159
  go_wp2_with fail
  refine (HN.out _).mono ?_
  rintro e w1 ⟨rfl,hb⟩
  have HB1:=Lh (HB0.out.trans (hb.mono HB0.out.size))
  clear hb
  go_wp2
  go_ret
  exact ⟨ret_i64 HF.out.symm,HB1.out⟩
 | true=>
  obtain ⟨⟨n1,n2⟩,⟨h1,h2⟩,⟨s1,s2⟩⟩:=nm_of h0
  obtain ⟨hd,rfl⟩:=Int.eq_ofNat_of_zero_le h1
  obtain ⟨sz,rfl⟩:=Int.eq_ofNat_of_zero_le s1
  have H0:=Lh h0
  rw [h0] at HN
  clear h0 n1 n2 h1 h2 s1 s2 hv
  cases hz:zfB cs hd sz with
  | false=>
   have HF:=Lh (rgV_free H0.out (zfB_not hz))
   have HZ:=Lh (fun w1 (h:Ls w1 w1.heap.size (.slice A cs.length c) cs)=>zfree_any A cs.length c cs hd sz w1 h H0.out)
   rw [hz] at HZ
   clear hz
   go_enter Tryz.func159,Tryz.ntmps159
   go_wp2_with fail
   refine (HN.out _).mono ?_
   rintro e w1 ⟨rfl,hb⟩
   have HR1:=Lh (HS.out.below hb)
   have HV1:=Lh ((HV.out.below HR1.out.bel).more HR1.out.bel.size)
   obtain ⟨r0,r1,r2,hp⟩:=HR1.out.facts
   clear hb
   go_wp2_with fail
   refine (HZ.out _ HV1.out).mono ?_
   rintro e w2 ⟨rfl,hb⟩
   have HR2:=Lh (HR1.out.below hb)
   clear hb
   go_wp2
   go_ret
   exact ⟨ret_i64 HF.out.symm,HR2.out.bel⟩
  | true=>
   have HZF:=Lh (zfB_of hz)
   have HZ:=Lh (fun w1 (h:Ls w1 w1.heap.size (.slice A cs.length c) cs)=>zfree_any A cs.length c cs hd sz w1 h H0.out)
   have HO:=Lh (fun w1 (h:Ls w1 w1.heap.size (.slice A cs.length c) cs)=>ordered_any A cs.length c cs hd sz w1 h H0.out)
   have HE:=Lh (rgV_msg (cs:=cs) (hd:=hd) (sz:=sz) H0.out HZF.out)
   have HD:=Lh (rgV_dup (cs:=cs) (hd:=hd) (sz:=sz) H0.out HZF.out)
   have HK:=Lh (rgV_ok (cs:=cs) (hd:=hd) (sz:=sz) H0.out HZF.out)
   simp only [Int.toNat_natCast] at HE HD HK
   have hlen:=ord_len cs hd sz
   generalize ord cs hd sz=l at*
   have HLL:=Lh (show l.length<=12 by have:=nm_of H0.out;omega)
   rw [hz] at HZ
   clear hz hlen
   generalize rgV cs hd sz=R at*
   go_enter Tryz.func159,Tryz.ntmps159
   go_wp2_with fail
   refine (HN.out _).mono ?_
   rintro e w1 ⟨rfl,hb⟩
   have HR1:=Lh (HS.out.below hb)
   have HV1:=Lh ((HV.out.below HR1.out.bel).more HR1.out.bel.size)
   obtain ⟨r0,r1,r2,hp⟩:=HR1.out.facts
   clear hb
   go_wp2_with fail
   refine (HZ.out _ HV1.out).mono ?_
   rintro e w2 ⟨rfl,hb⟩
   have HR2:=Lh (HR1.out.below hb)
   have HV2:=Lh ((HV.out.below HR2.out.bel).more HR2.out.bel.size)
   clear hb r0 r1 r2 hp
   obtain ⟨r0,r1,r2,hp⟩:=HR2.out.facts
   go_wp2_with fail
   refine (HO.out _ HV2.out).mono ?_
   rintro e w3 ⟨v,rfl,hnw,hl,hb⟩
   clear hnw
   have HB3:=Lh (HR2.out.bel.trans (hb.mono HR2.out.bel.size))
   obtain ⟨A2,c2,rfl,_,_⟩:=hl.form
   have HL3:=Lh hl
   have hl12:=HLL.out
   clear hb r0 r1 r2 hp hl
   clear HR1 HV1 HR2 HV2
   go_wp2
   go_loopw [17] (fun i wr=>∃ k:Nat,k<=l.length/\i=.int .i64 k/\Below w.heap.size w wr/\Below w3.heap.size w3 wr/\∀ j (hj:j<l.length),j<k->vf l[j]=0) (fun i _=>l.length - (intOf i).toNat)
   case atStart=>exact ⟨0,by omega,rfl,HB3.out,Below.refl _ _,fun j _ h=>absurd h (by omega)⟩
   case round=>
    obtain ⟨k,hk,rfl,hb,hb3,hno⟩:=hrel
    have HNO:=Lh hno
    have HLK:=Lh (HL3.out.below hb3)
    have HBW:=Lh hb
    have HB3W:=Lh hb3
    clear hno hb hb3
    by_cases hlt:k<l.length
    ·have HEK:=Lh (fun h=>fe_hit hlt HNO.out h)
     have HBA:=Lh (HBW.out.alloc HBW.out.size (.cells (l[k]).cs 79))
     have HB3A:=Lh (HB3W.out.alloc HB3W.out.size (.cells (l[k]).cs 79))
     have HVD:=Lh (fun w=>validate_any l[k] w)
     obtain ⟨b,o,rfl,hb,c0,c1,c2,c3,c4,c5,c6⟩:=HLK.out.at_ hlt
     by_cases he:vf l[k]=0
     ·rw [he] at HVD
      have HNN:=Lh (show ∀ j (hj:j<l.length),j<k+1->vf l[j]=0 from fun j hj h=>by
       by_cases e:j=k
       ·subst e;exact he
       ·exact HNO.out j hj (by omega))
      clear he HEK
      generalize l[k]=X at*
      go_wp2_with fail
      refine (HVD.out _).mono ?_
      rintro e w4 ⟨rfl,hb4⟩
      have HB4:=Lh (HBA.out.trans (hb4.mono HBA.out.size))
      have HB34:=Lh (HB3A.out.trans (hb4.mono HB3A.out.size))
      clear hb4
      go_wp2
      go_roundw
      case rel=>exact ⟨k+1,by omega,by go_num,HB4.out,HB34.out,HNN.out⟩
      case measure=>simp [intOf];omega
     ·have HR:=Lh (show R=vf l[k] by rw [<-HEK.out he];exact HE.out (by rw [HEK.out he];exact he))
      have hne:(vf l[k] != 0)=true:=bne_iff_ne.2 he
      clear he HEK
      generalize l[k]=X at*
      generalize vf X=x at*
      go_wp2_with fail
      refine (HVD.out _).mono ?_
      rintro e w4 ⟨rfl,hb4⟩
      have HB4:=Lh (HBA.out.trans (hb4.mono HBA.out.size))
      clear hb4
      go_wp2
      go_ret
      exact ⟨ret_i64 HR.out.symm,HB4.out⟩
    ·have HFE:=Lh (show fe l=0 from fe_all fun M hM=>by
      obtain ⟨j,hj,rfl⟩:=List.getElem_of_mem hM
      exact HNO.out j hj (by omega))
     have HSI:=Lh (sameid_any A2 l.length c2 l wr (HLK.out.more HB3W.out.size))
     cases hd:dpB l with
     | true=>
      have HR:=Lh (HD.out HFE.out (dpB_of hd))
      rw [hd] at HSI
      clear hd
      go_wp2_with fail
      refine HSI.out.mono ?_
      rintro e w4 ⟨rfl,hb4⟩
      have HB4:=Lh (HBW.out.trans (hb4.mono HBW.out.size))
      clear hb4
      go_wp2
      go_ret
      exact ⟨ret_i64 HR.out.symm,HB4.out⟩
     | false=>
      have HR:=Lh (HK.out HFE.out (dpB_not hd))
      rw [hd] at HSI
      clear hd
      go_wp2_with fail
      refine HSI.out.mono ?_
      rintro e w4 ⟨rfl,hb4⟩
      have HB4:=Lh (HBW.out.trans (hb4.mono HBW.out.size))
      clear hb4
      go_wp2
      go_ret
      exact ⟨ret_i64 HR.out.symm,HB4.out⟩
noncomputable def lsF (cs:List Msg) (hd sz:Int):List Msg:=if rgV cs hd sz=0 then ord cs hd.toNat sz.toNat else []
noncomputable def puE (cs:List Msg) (hd sz:Int) (M:Msg):Int:=if rgV cs hd sz≠0 then rgV cs hd sz else if vf M≠0 then vf M else if sz=cs.length then 3 else if 0<=ixF (ord cs hd.toNat sz.toNat) M.id then 10 else 0
theorem glist_any (A:Option Addr) (n c:Nat) (cs:List Msg) (hd sz:Int) (w:World) (hv:Ls w w.heap.size (.slice A n c) cs) :
  Calls Tryz.prog 146 #[.agg #[.slice A n c,.int .i64 hd,.int .i64 sz]] w (LsP (lsF cs hd sz) w):=by
 obtain ⟨rfl,_,_⟩:=hv.len
 have HV:=Lh hv
 have HS:=Lh (RgAt.start w A cs.length c hd sz 66)
 have HG:=Lh (fun w1 (h:Ls w1 w1.heap.size (.slice A cs.length c) cs)=>gvalid_any A cs.length c cs hd sz w1 h)
 clear hv
 by_cases h0:rgV cs hd sz=0
 ·obtain ⟨hn,_,_,_⟩:=rgV_zero h0
  obtain ⟨⟨n1,n2⟩,⟨h1,h2⟩,⟨s1,s2⟩⟩:=nm_of hn
  obtain ⟨hd,rfl⟩:=Int.eq_ofNat_of_zero_le h1
  obtain ⟨sz,rfl⟩:=Int.eq_ofNat_of_zero_le s1
  have HO:=Lh (fun w1 (h:Ls w1 w1.heap.size (.slice A cs.length c) cs)=>ordered_any A cs.length c cs hd sz w1 h hn)
  have HF:=Lh (show lsF cs hd sz=ord cs hd sz from if_pos h0)
  rw [h0] at HG
  clear h0 hn n1 n2 h1 h2 s1 s2
  go_enter Tryz.func146,Tryz.ntmps146
  go_wp2_with fail
  refine (HG.out _ ((HV.out.below HS.out.bel).more HS.out.bel.size)).mono ?_
  rintro e w1 ⟨rfl,hb⟩
  have HR1:=Lh (HS.out.below hb)
  obtain ⟨r0,r1,r2,hp⟩:=HR1.out.facts
  clear hb
  go_wp2_with fail
  refine (HO.out _ ((HV.out.below HR1.out.bel).more HR1.out.bel.size)).mono ?_
  rintro e w2 ⟨v,rfl,hnw,hl,hb⟩
  have HNV:=Lh (nwv_low hnw HR1.out.bel.size)
  clear hnw
  have HL:=Lh hl
  have HB:=Lh (HR1.out.bel.trans (hb.mono HR1.out.bel.size))
  clear hl hb
  go_wp2
  go_ret
  exact ⟨_,rfl,HNV.out,by rw [HF.out];exact HL.out,HB.out⟩
 ·have HF:=Lh (show lsF cs hd sz=[] from if_neg h0)
  have hne:(rgV cs hd sz != 0)=true:=bne_iff_ne.2 h0
  generalize rgV cs hd sz=x at*
  clear h0
  go_enter Tryz.func146,Tryz.ntmps146
  go_wp2_with fail
  refine (HG.out _ ((HV.out.below HS.out.bel).more HS.out.bel.size)).mono ?_
  rintro e w1 ⟨rfl,hb⟩
  have HR1:=Lh (HS.out.below hb)
  clear hb
  go_wp2
  go_ret
  exact ⟨_,rfl,nwv_mk nw_none,by rw [HF.out];exact Ls.nil,HR1.out.bel⟩
def Msg.nth (M:Msg):Nat->Int
 | 0=>M.id
 | 1=>M.rt
 | 2=>M.ep
 | 3=>M.ct
 | 4=>M.gn
 | _=>M.st
def eb (M:Msg):Nat->List UInt8
 | 0=>[]
 | k+1=>eb M k++groups 5 (M.nth k).toNat
structure RmAt (w:World) (p q:Nat) (A:Option Addr) (n c:Nat) (hd sz:Int) (M:Msg) (W:World):Prop where
 rg:RgAt w p A n c hd sz W
 ms:MAt W q M.nth M.bd
 ne:p<q
section
variable {w W W' : World} {p q n c:Nat} {A:Option Addr} {hd sz:Int} {M:Msg}
end
theorem Ls.up {w W:World} {v:Value} {l:List Msg} (h:Ls w w.heap.size v l) (hb:Below w.heap.size w W):Ls W W.heap.size v l:=(h.below hb).more hb.size
end Go.Proofs.YtkecnihgjepfeaaGreat
