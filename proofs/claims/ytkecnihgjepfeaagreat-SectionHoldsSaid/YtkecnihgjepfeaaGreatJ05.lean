/- What is proved here: parts of the proof: Rvd Rvr Rgp Med Rpe Rge. -/
import Derived.Test.YtkecnihgjepfeaaGreatJ04
namespace Go.Proofs.YtkecnihgjepfeaaGreat
open Go.RowKit
set_option linter.unusedVariables false
set_option linter.unusedSimpArgs false
set_option maxHeartbeats 8000000
set_option maxRecDepth 20000
open Classical in
noncomputable def dpB (l:List Msg):Bool:=decide (dupP l)
open Classical in
theorem dpB_yes {l:List Msg} (h:dupP l):dpB l=true:=decide_eq_true h
open Classical in
theorem dpB_no {l:List Msg} (h:¬dupP l):dpB l=false:=decide_eq_false h
open Classical in
theorem dpB_of {l:List Msg} (h:dpB l=true):dupP l:=of_decide_eq_true h
open Classical in
theorem dpB_not {l:List Msg} (h:dpB l=false):¬dupP l:=of_decide_eq_false h
theorem dup_take {l:List Msg} {k:Nat} (hk:k<l.length) (h:0<=ixF (l.take k) l[k].id):dupP l:=by
 rcases ixF_cases (l.take k) l[k].id with ⟨e,_⟩ | ⟨j,hj,e,hi,_⟩
 ·rw [e] at h;exact absurd h (by decide)
 ·have hj' : j<k:=by simp at hj;omega
  exact ⟨j,k,by omega,hk,hj',by simpa using hi⟩
theorem dup_not_take {l:List Msg} {k:Nat} (hk:k<l.length) (h:¬0<=ixF (l.take k) l[k].id):∀ i (hi:i<l.length),i<k->l[i].id≠l[k].id:=by
 intro i hi hik e
 refine h ((ixF_ge _ _).2 ⟨l[i],?_,e⟩)
 rw [List.mem_take_iff_getElem]
 exact ⟨i,by omega,rfl⟩
theorem sameid_any (A:Option Addr) (n c:Nat) (l:List Msg) (w:World) (hv:Ls w w.heap.size (.slice A n c) l) :
  Calls Tryz.prog 172 #[.slice A n c] w fun e w'=>e=.returned (.bool (dpB l))/\Below w.heap.size w w':=by
 obtain ⟨rfl,hm1,hm2⟩:=hv.len
 have hL:l.length<=9223372036854775807:=by unfold maxLen at hm2;omega
 have HC:=Lh hm1
 have HV:=Lh hv
 have HB:=Lh (Below.refl w.heap.size w)
 clear hv hm1 hm2
 go_enter Tryz.func172,Tryz.ntmps172
 go_wp2
 go_loopw [7] (fun i wr=>∃ k:Nat,k<=l.length/\i=.int .i64 k/\Below w.heap.size w wr/\∀ i j (hi:i<l.length) (hj:j<l.length),i<j->j<k->l[i].id≠l[j].id) (fun i _=>l.length - (intOf i).toNat)
 case atStart=>exact ⟨0,by omega,rfl,HB.out,fun i j _ _ _ h=>absurd h (by omega)⟩
 case round=>
  obtain ⟨k,hk,rfl,hb,hno⟩:=hrel
  have HN:=Lh hno
  have HVK:=Lh (HV.out.below hb)
  have HB:=Lh hb
  clear hno hb
  by_cases hlt:k<l.length
  ·have HD:=Lh (fun h=>dup_take hlt h)
   have HT:=Lh (fun h=>dup_not_take hlt h)
   have hcut:=run_lupto A l.length c .i64 k (by have:=HC.out;omega)
   have HVA:=Lh ((((HVK.out.alloc HB.out.size (.cells (l[k]).cs 79)).upto k hk).drew).more (show w.heap.size<=(wr.alloc (.cells (l[k]).cs 79)).drew.heap.size by have:=HB.out.size;simp;omega))
   have HBA:=Lh (HB.out.alloc HB.out.size (.cells (l[k]).cs 79))
   obtain ⟨b,o,rfl,hb,c0,c1,c2,c3,c4,c5,c6⟩:=HVK.out.at_ hlt
   by_cases he:0<=ixF (l.take k) l[k].id
   ·have HY:=Lh (dpB_yes (HD.out he))
    generalize hX:l[k]=X at*
    have HX:=Lh hX
    have HFD:=Lh (fun w1 (h:Ls w1 w1.heap.size (.slice (some ⟨b,o,none⟩) k c) (l.take k))=>find_any _ _ _ _ X.id w1 h)
    generalize ixF (l.take k) X.id=r at*
    clear hX
    go_wp2
    go_region_with ((go_at_call 189;refine (HFD.out _ HVA.out).mono ?_;rintro e w1 ⟨rfl,hb1⟩;have HB1:=Lh (HBA.out.trans ((drew_below hb1).mono HBA.out.size));clear hb1))
    all_goals
     go_wp2
     go_ret
     exact ⟨by rw [HY.out];rfl,HB1.out⟩
   ·have HNN:=Lh (HT.out he)
    have hge:=Lh (ixF_lt (l.take k) l[k].id).1
    generalize hX:l[k]=X at*
    have HX:=Lh hX
    have HFD:=Lh (fun w1 (h:Ls w1 w1.heap.size (.slice (some ⟨b,o,none⟩) k c) (l.take k))=>find_any _ _ _ _ X.id w1 h)
    generalize ixF (l.take k) X.id=r at*
    have hr:r = -1:=by have:=hge.out;omega
    subst hr
    clear hX he hge
    go_wp2
    go_region_with ((go_at_call 189;refine (HFD.out _ HVA.out).mono ?_;rintro e w1 ⟨rfl,hb1⟩;have HB1:=Lh (HBA.out.trans ((drew_below hb1).mono HBA.out.size));clear hb1))
    all_goals
     go_wp2
     go_roundw
     case rel=>
      refine ⟨k+1,by omega,by go_num,HB1.out,fun i j hi hj hij hjk=>?_⟩
      by_cases e:j=k
      ·subst e
       rw [HX.out]
       exact HNN.out i hi hij
      ·exact HN.out i j hi hj hij (by omega)
     case measure=>simp [intOf];omega
  ·have HY:=Lh (dpB_no (l:=l) (by rintro ⟨i,j,hi,hj,hij,e⟩;exact HN.out i j hi hj hij (by omega) e))
   go_wp2
   go_ret
   exact ⟨by rw [HY.out];rfl,HB.out⟩
end Go.Proofs.YtkecnihgjepfeaaGreat
namespace Go.Proofs.YtkecnihgjepfeaaGreat
open Go.RowKit
set_option linter.unusedVariables false
set_option linter.unusedSimpArgs false
set_option maxHeartbeats 8000000
set_option maxRecDepth 20000
theorem ret_i64 {a b:Int} (h:a=b):Ending.returned (.int .i64 a)=.returned (.int .i64 b):=by rw [h]
def VlT (w:World) (r:Int) (e:Ending) (w' : World):Prop:=e=.returned (.int .i64 r)/\Below w.heap.size w w'
theorem gvalid_any (A:Option Addr) (n c:Nat) (cs:List Msg) (hd sz:Int) (w:World) (hv:Ls w w.heap.size (.slice A n c) cs) :
  Calls Tryz.prog 159 #[.agg #[.slice A n c,.int .i64 hd,.int .i64 sz]] w (VlT w (rgV cs hd sz)):=by
 obtain ⟨rfl,hm1,hm2⟩:=hv.len
 have HN:=Lh (fun w=>gnums_any A cs.length c hd sz w (by omega))
 have HV:=Lh hv
 clear hm1 hm2
 have HS:=Lh (RgAt.start w A cs.length c hd sz 66)
 have HB0:=Lh HS.out.bel
 cases h0:nmB cs.length hd sz with
 | false=>
  have HF:=Lh (rgV_num h0)
  rw [h0] at HN
  clear hv h0 HS
  go_enter Tryz.func159,Tryz.ntmps159
  go_wp2_with fail
  refine (HN.out _).mono ?_
  rintro e w1 ⟨rfl,hb⟩
  have HB1:=Lh (HB0.out.trans (hb.mono HB0.out.size))
  clear hb
  go_wp2
  go_ret
  exact ⟨ret_i64 HF.out.symm,HB1.out⟩
 | true=>
  obtain ⟨⟨n1,n2⟩,⟨h1,h2⟩,⟨s1,s2⟩⟩:=nm_of h0
  obtain ⟨hd,rfl⟩:=Int.eq_ofNat_of_zero_le h1
  obtain ⟨sz,rfl⟩:=Int.eq_ofNat_of_zero_le s1
  have H0:=Lh h0
  rw [h0] at HN
  clear h0 n1 n2 h1 h2 s1 s2 hv
  cases hz:zfB cs hd sz with
  | false=>
   have HF:=Lh (rgV_free H0.out (zfB_not hz))
   have HZ:=Lh (fun w1 (h:Ls w1 w1.heap.size (.slice A cs.length c) cs)=>zfree_any A cs.length c cs hd sz w1 h H0.out)
   rw [hz] at HZ
   clear hz
   go_enter Tryz.func159,Tryz.ntmps159
   go_wp2_with fail
   refine (HN.out _).mono ?_
   rintro e w1 ⟨rfl,hb⟩
   have HR1:=Lh (HS.out.below hb)
   have HV1:=Lh ((HV.out.below HR1.out.bel).more HR1.out.bel.size)
   obtain ⟨r0,r1,r2,hp⟩:=HR1.out.facts
   clear hb
   go_wp2_with fail
   refine (HZ.out _ HV1.out).mono ?_
   rintro e w2 ⟨rfl,hb⟩
   have HR2:=Lh (HR1.out.below hb)
   clear hb
   go_wp2
   go_ret
   exact ⟨ret_i64 HF.out.symm,HR2.out.bel⟩
  | true=>
   have HZF:=Lh (zfB_of hz)
   have HZ:=Lh (fun w1 (h:Ls w1 w1.heap.size (.slice A cs.length c) cs)=>zfree_any A cs.length c cs hd sz w1 h H0.out)
   have HO:=Lh (fun w1 (h:Ls w1 w1.heap.size (.slice A cs.length c) cs)=>ordered_any A cs.length c cs hd sz w1 h H0.out)
   have HE:=Lh (rgV_msg (cs:=cs) (hd:=hd) (sz:=sz) H0.out HZF.out)
   have HD:=Lh (rgV_dup (cs:=cs) (hd:=hd) (sz:=sz) H0.out HZF.out)
   have HK:=Lh (rgV_ok (cs:=cs) (hd:=hd) (sz:=sz) H0.out HZF.out)
   simp only [Int.toNat_natCast] at HE HD HK
   have hlen:=ord_len cs hd sz
   generalize ord cs hd sz=l at*
   have HLL:=Lh (show l.length<=12 by have:=nm_of H0.out;omega)
   rw [hz] at HZ
   clear hz hlen
   generalize rgV cs hd sz=R at*
   go_enter Tryz.func159,Tryz.ntmps159
   go_wp2_with fail
   refine (HN.out _).mono ?_
   rintro e w1 ⟨rfl,hb⟩
   have HR1:=Lh (HS.out.below hb)
   have HV1:=Lh ((HV.out.below HR1.out.bel).more HR1.out.bel.size)
   obtain ⟨r0,r1,r2,hp⟩:=HR1.out.facts
   clear hb
   go_wp2_with fail
   refine (HZ.out _ HV1.out).mono ?_
   rintro e w2 ⟨rfl,hb⟩
   have HR2:=Lh (HR1.out.below hb)
   have HV2:=Lh ((HV.out.below HR2.out.bel).more HR2.out.bel.size)
   clear hb r0 r1 r2 hp
   obtain ⟨r0,r1,r2,hp⟩:=HR2.out.facts
   go_wp2_with fail
   refine (HO.out _ HV2.out).mono ?_
   rintro e w3 ⟨v,rfl,hnw,hl,hb⟩
   clear hnw
   have HB3:=Lh (HR2.out.bel.trans (hb.mono HR2.out.bel.size))
   obtain ⟨A2,c2,rfl,_,_⟩:=hl.form
   have HL3:=Lh hl
   have hl12:=HLL.out
   clear hb r0 r1 r2 hp hl
   clear HR1 HV1 HR2 HV2
   go_wp2
   go_loopw [17] (fun i wr=>∃ k:Nat,k<=l.length/\i=.int .i64 k/\Below w.heap.size w wr/\Below w3.heap.size w3 wr/\∀ j (hj:j<l.length),j<k->vf l[j]=0) (fun i _=>l.length - (intOf i).toNat)
   case atStart=>exact ⟨0,by omega,rfl,HB3.out,Below.refl _ _,fun j _ h=>absurd h (by omega)⟩
   case round=>
    obtain ⟨k,hk,rfl,hb,hb3,hno⟩:=hrel
    have HNO:=Lh hno
    have HLK:=Lh (HL3.out.below hb3)
    have HBW:=Lh hb
    have HB3W:=Lh hb3
    clear hno hb hb3
    by_cases hlt:k<l.length
    ·have HEK:=Lh (fun h=>fe_hit hlt HNO.out h)
     have HBA:=Lh (HBW.out.alloc HBW.out.size (.cells (l[k]).cs 79))
     have HB3A:=Lh (HB3W.out.alloc HB3W.out.size (.cells (l[k]).cs 79))
     have HVD:=Lh (fun w=>validate_any l[k] w)
     obtain ⟨b,o,rfl,hb,c0,c1,c2,c3,c4,c5,c6⟩:=HLK.out.at_ hlt
     by_cases he:vf l[k]=0
     ·rw [he] at HVD
      have HNN:=Lh (show ∀ j (hj:j<l.length),j<k+1->vf l[j]=0 from fun j hj h=>by
       by_cases e:j=k
       ·subst e;exact he
       ·exact HNO.out j hj (by omega))
      clear he HEK
      generalize l[k]=X at*
      go_wp2_with fail
      refine (HVD.out _).mono ?_
      rintro e w4 ⟨rfl,hb4⟩
      have HB4:=Lh (HBA.out.trans (hb4.mono HBA.out.size))
      have HB34:=Lh (HB3A.out.trans (hb4.mono HB3A.out.size))
      clear hb4
      go_wp2
      go_roundw
      case rel=>exact ⟨k+1,by omega,by go_num,HB4.out,HB34.out,HNN.out⟩
      case measure=>simp [intOf];omega
     ·have HR:=Lh (show R=vf l[k] by rw [<-HEK.out he];exact HE.out (by rw [HEK.out he];exact he))
      have hne:(vf l[k] != 0)=true:=bne_iff_ne.2 he
      clear he HEK
      generalize l[k]=X at*
      generalize vf X=x at*
      go_wp2_with fail
      refine (HVD.out _).mono ?_
      rintro e w4 ⟨rfl,hb4⟩
      have HB4:=Lh (HBA.out.trans (hb4.mono HBA.out.size))
      clear hb4
      go_wp2
      go_ret
      exact ⟨ret_i64 HR.out.symm,HB4.out⟩
    ·have HFE:=Lh (show fe l=0 from fe_all fun M hM=>by
      obtain ⟨j,hj,rfl⟩:=List.getElem_of_mem hM
      exact HNO.out j hj (by omega))
     have HSI:=Lh (sameid_any A2 l.length c2 l wr (HLK.out.more HB3W.out.size))
     cases hd:dpB l with
     | true=>
      have HR:=Lh (HD.out HFE.out (dpB_of hd))
      rw [hd] at HSI
      clear hd
      go_wp2_with fail
      refine HSI.out.mono ?_
      rintro e w4 ⟨rfl,hb4⟩
      have HB4:=Lh (HBW.out.trans (hb4.mono HBW.out.size))
      clear hb4
      go_wp2
      go_ret
      exact ⟨ret_i64 HR.out.symm,HB4.out⟩
     | false=>
      have HR:=Lh (HK.out HFE.out (dpB_not hd))
      rw [hd] at HSI
      clear hd
      go_wp2_with fail
      refine HSI.out.mono ?_
      rintro e w4 ⟨rfl,hb4⟩
      have HB4:=Lh (HBW.out.trans (hb4.mono HBW.out.size))
      clear hb4
      go_wp2
      go_ret
      exact ⟨ret_i64 HR.out.symm,HB4.out⟩
noncomputable def lsF (cs:List Msg) (hd sz:Int):List Msg:=if rgV cs hd sz=0 then ord cs hd.toNat sz.toNat else []
noncomputable def puE (cs:List Msg) (hd sz:Int) (M:Msg):Int:=if rgV cs hd sz≠0 then rgV cs hd sz else if vf M≠0 then vf M else if sz=cs.length then 3 else if 0<=ixF (ord cs hd.toNat sz.toNat) M.id then 10 else 0
theorem glist_any (A:Option Addr) (n c:Nat) (cs:List Msg) (hd sz:Int) (w:World) (hv:Ls w w.heap.size (.slice A n c) cs) :
  Calls Tryz.prog 146 #[.agg #[.slice A n c,.int .i64 hd,.int .i64 sz]] w (LsP (lsF cs hd sz) w):=by
 obtain ⟨rfl,_,_⟩:=hv.len
 have HV:=Lh hv
 have HS:=Lh (RgAt.start w A cs.length c hd sz 66)
 have HG:=Lh (fun w1 (h:Ls w1 w1.heap.size (.slice A cs.length c) cs)=>gvalid_any A cs.length c cs hd sz w1 h)
 clear hv
 by_cases h0:rgV cs hd sz=0
 ·obtain ⟨hn,_,_,_⟩:=rgV_zero h0
  obtain ⟨⟨n1,n2⟩,⟨h1,h2⟩,⟨s1,s2⟩⟩:=nm_of hn
  obtain ⟨hd,rfl⟩:=Int.eq_ofNat_of_zero_le h1
  obtain ⟨sz,rfl⟩:=Int.eq_ofNat_of_zero_le s1
  have HO:=Lh (fun w1 (h:Ls w1 w1.heap.size (.slice A cs.length c) cs)=>ordered_any A cs.length c cs hd sz w1 h hn)
  have HF:=Lh (show lsF cs hd sz=ord cs hd sz from if_pos h0)
  rw [h0] at HG
  clear h0 hn n1 n2 h1 h2 s1 s2
  go_enter Tryz.func146,Tryz.ntmps146
  go_wp2_with fail
  refine (HG.out _ ((HV.out.below HS.out.bel).more HS.out.bel.size)).mono ?_
  rintro e w1 ⟨rfl,hb⟩
  have HR1:=Lh (HS.out.below hb)
  obtain ⟨r0,r1,r2,hp⟩:=HR1.out.facts
  clear hb
  go_wp2_with fail
  refine (HO.out _ ((HV.out.below HR1.out.bel).more HR1.out.bel.size)).mono ?_
  rintro e w2 ⟨v,rfl,hnw,hl,hb⟩
  have HNV:=Lh (nwv_low hnw HR1.out.bel.size)
  clear hnw
  have HL:=Lh hl
  have HB:=Lh (HR1.out.bel.trans (hb.mono HR1.out.bel.size))
  clear hl hb
  go_wp2
  go_ret
  exact ⟨_,rfl,HNV.out,by rw [HF.out];exact HL.out,HB.out⟩
 ·have HF:=Lh (show lsF cs hd sz=[] from if_neg h0)
  have hne:(rgV cs hd sz != 0)=true:=bne_iff_ne.2 h0
  generalize rgV cs hd sz=x at*
  clear h0
  go_enter Tryz.func146,Tryz.ntmps146
  go_wp2_with fail
  refine (HG.out _ ((HV.out.below HS.out.bel).more HS.out.bel.size)).mono ?_
  rintro e w1 ⟨rfl,hb⟩
  have HR1:=Lh (HS.out.below hb)
  clear hb
  go_wp2
  go_ret
  exact ⟨_,rfl,nwv_mk nw_none,by rw [HF.out];exact Ls.nil,HR1.out.bel⟩
def Msg.nth (M:Msg):Nat->Int
 | 0=>M.id
 | 1=>M.rt
 | 2=>M.ep
 | 3=>M.ct
 | 4=>M.gn
 | _=>M.st
def eb (M:Msg):Nat->List UInt8
 | 0=>[]
 | k+1=>eb M k++groups 5 (M.nth k).toNat
structure RmAt (w:World) (p q:Nat) (A:Option Addr) (n c:Nat) (hd sz:Int) (M:Msg) (W:World):Prop where
 rg:RgAt w p A n c hd sz W
 ms:MAt W q M.nth M.bd
 ne:p<q
section
variable {w W W' : World} {p q n c:Nat} {A:Option Addr} {hd sz:Int} {M:Msg}
end
theorem Ls.up {w W:World} {v:Value} {l:List Msg} (h:Ls w w.heap.size v l) (hb:Below w.heap.size w W):Ls W W.heap.size v l:=(h.below hb).more hb.size
theorem row_fil {n hd:Nat} {g:Nat->Msg} {l:List Msg} (hh:hd<n) (h:∀ k,k<n->g ((hd+k) % n)=l.getD k zM):(List.range n).map g=fil n hd l:=by
 refine cel_ext (hd:=hd) (by rw [fil_len];simp) (by simpa using hh) fun k hk=>?_
 have hk' : k<n:=by simpa using hk
 rw [cel_fil l hh hk',<-h k hk']
 have hm:(hd+k) % n<n:=Nat.mod_lt _ (by omega)
 simp [cel,List.getD,hm]
structure RB (W:World) (p:Nat) (A:Option Addr) (n c:Nat) (hd sz:Int):Prop where
 lt:p<W.heap.size
 c0:W.cell? ⟨p,0,none⟩=some (.slice A n c)
 c1:W.cell? ⟨p,1,none⟩=some (.int .i64 hd)
 c2:W.cell? ⟨p,2,none⟩=some (.int .i64 sz)
 fr:∀ o,W.frozen? ⟨p,o,none⟩=false
section
variable {W W' : World} {p n c:Nat} {A:Option Addr} {hd sz:Int}
theorem MRow.ls' {q m cap:Nat} {f:Nat->Msg} {l:List Msg} (h:MRow W q m f) (hl:(List.range m).map f=l) (hc:m<=cap) (hm:cap<=maxLen):Ls W W.heap.size (.slice (some ⟨q,0,none⟩) m cap) l:=by
 rw [<-hl];exact h.ls m cap (nLR _) hc hm
end
def RP (w:World) (cs:List Msg) (hd sz x:Int) (e:Ending) (w' : World):Prop:=∃ A c,e=.returned (.tuple #[.agg #[.slice A cs.length c,.int .i64 hd,.int .i64 sz],.int .i64 x])/\Nw w.heap.size A/\Ls w' w'.heap.size (.slice A cs.length c) cs/\Below w.heap.size w w'
end Go.Proofs.YtkecnihgjepfeaaGreat
