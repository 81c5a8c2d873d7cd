/- What is proved here: ring.Validate and ring.List by contracts; ring.List, ring.popError, ring.pushError by contracts; (plain functions) the bytes of a message, and what is read of bytes; ring.pushError by a contract; (plain) what changes of a ring's cells give, as fillings with the changed order; blocks that hold a ring and may be written. -/
import Derived.Test.YtncgbldcjfbknaaGreatJ05
namespace Go.Proofs.YtncgbldcjfbknaaGreat
open Go.RowKit
set_option linter.unusedVariables false
theorem ret_i64 {a b:Int} (h:a=b):Ending.returned (.int .i64 a)=.returned (.int .i64 b):=by rw [h]
def VlT (w:World) (r:Int) (e:Ending) (w' : World):Prop:=e=.returned (.int .i64 r)∧Below w.heap.size w w'
set_option maxHeartbeats 4000000 in
set_option maxRecDepth 20000 in
theorem gvalid_any (A:Option Addr) (n c:Nat) (cs:List Msg) (hd sz:Int) (w:World) (hv:Ls w w.heap.size (.slice A n c) cs) :
  Calls Tryz.prog 127 #[.agg #[.slice A n c,.int .i64 hd,.int .i64 sz]] w (VlT w (rgV cs hd sz)):=by
 obtain ⟨rfl,hm1,hm2⟩:=hv.len
 have HN:=Lh (fun w=>gnums_any A cs.length c hd sz w (by omega))
 have HV:=Lh hv
 clear hm1 hm2
 have HS:=Lh (RgAt.start w A cs.length c hd sz 27)
 have HB0:=Lh HS.out.bel
 cases h0:nmB cs.length hd sz with
 | false=>
  have HF:=Lh (rgV_num h0)
  rw [h0] at HN
  clear hv h0 HS
  go_enter Tryz.func127,Tryz.ntmps127
  go_wp2_with fail
  refine (HN.out _).mono ?_
  rintro e w1 ⟨rfl,hb⟩
  have HB1:=Lh (HB0.out.trans (hb.mono HB0.out.size))
  clear hb
  go_wp2
  go_ret
  exact ⟨ret_i64 HF.out.symm,HB1.out⟩
 | true=>
  obtain ⟨⟨n1,n2⟩,⟨h1,h2⟩,⟨s1,s2⟩⟩:=nm_of h0
  obtain ⟨hd,rfl⟩:=Int.eq_ofNat_of_zero_le h1
  obtain ⟨sz,rfl⟩:=Int.eq_ofNat_of_zero_le s1
  have H0:=Lh h0
  rw [h0] at HN
  clear h0 n1 n2 h1 h2 s1 s2 hv
  cases hz:zfB cs hd sz with
  | false=>
   have HF:=Lh (rgV_free H0.out (zfB_not hz))
   have HZ:=Lh (fun w1 (h:Ls w1 w1.heap.size (.slice A cs.length c) cs)=>zfree_any A cs.length c cs hd sz w1 h H0.out)
   rw [hz] at HZ
   clear hz
   go_enter Tryz.func127,Tryz.ntmps127
   go_wp2_with fail
   refine (HN.out _).mono ?_
   rintro e w1 ⟨rfl,hb⟩
   have HR1:=Lh (HS.out.below hb)
   have HV1:=Lh ((HV.out.below HR1.out.bel).more HR1.out.bel.size)
   obtain ⟨r0,r1,r2,hp⟩:=HR1.out.facts
   clear hb
   go_wp2_with fail
   refine (HZ.out _ HV1.out).mono ?_
   rintro e w2 ⟨rfl,hb⟩
   have HR2:=Lh (HR1.out.below hb)
   clear hb
   go_wp2
   go_ret
   exact ⟨ret_i64 HF.out.symm,HR2.out.bel⟩
  | true=>
   have HZF:=Lh (zfB_of hz)
   have HZ:=Lh (fun w1 (h:Ls w1 w1.heap.size (.slice A cs.length c) cs)=>zfree_any A cs.length c cs hd sz w1 h H0.out)
   have HO:=Lh (fun w1 (h:Ls w1 w1.heap.size (.slice A cs.length c) cs)=>ordered_any A cs.length c cs hd sz w1 h H0.out)
   have HE:=Lh (rgV_msg (cs:=cs) (hd:=hd) (sz:=sz) H0.out HZF.out)
   have HD:=Lh (rgV_dup (cs:=cs) (hd:=hd) (sz:=sz) H0.out HZF.out)
   have HK:=Lh (rgV_ok (cs:=cs) (hd:=hd) (sz:=sz) H0.out HZF.out)
   simp only [Int.toNat_natCast] at HE HD HK
   have hlen:=ord_len cs hd sz
   generalize ord cs hd sz=l at*
   have HLL:=Lh (show l.length≤12 by have:=nm_of H0.out;omega)
   rw [hz] at HZ
   clear hz hlen
   generalize rgV cs hd sz=R at*
   go_enter Tryz.func127,Tryz.ntmps127
   go_wp2_with fail
   refine (HN.out _).mono ?_
   rintro e w1 ⟨rfl,hb⟩
   have HR1:=Lh (HS.out.below hb)
   have HV1:=Lh ((HV.out.below HR1.out.bel).more HR1.out.bel.size)
   obtain ⟨r0,r1,r2,hp⟩:=HR1.out.facts
   clear hb
   go_wp2_with fail
   refine (HZ.out _ HV1.out).mono ?_
   rintro e w2 ⟨rfl,hb⟩
   have HR2:=Lh (HR1.out.below hb)
   have HV2:=Lh ((HV.out.below HR2.out.bel).more HR2.out.bel.size)
   clear hb r0 r1 r2 hp
   obtain ⟨r0,r1,r2,hp⟩:=HR2.out.facts
   go_wp2_with fail
   refine (HO.out _ HV2.out).mono ?_
   rintro e w3 ⟨v,rfl,hnw,hl,hb⟩
   clear hnw
   have HB3:=Lh (HR2.out.bel.trans (hb.mono HR2.out.bel.size))
   obtain ⟨A2,c2,rfl,_,_⟩:=hl.form
   have HL3:=Lh hl
   have hl12:=HLL.out
   clear hb r0 r1 r2 hp hl
   clear HR1 HV1 HR2 HV2
   go_wp2
   go_loopw [17] (fun i wr=>∃ k:Nat,k≤l.length∧i=.int .i64 k∧Below w.heap.size w wr∧Below w3.heap.size w3 wr∧∀ j (hj:j<l.length),j<k→vf l[j]=0) (fun i _=>l.length - (intOf i).toNat)
   case atStart=>exact ⟨0,by omega,rfl,HB3.out,Below.refl _ _,fun j _ h=>absurd h (by omega)⟩
   case round=>
    obtain ⟨k,hk,rfl,hb,hb3,hno⟩:=hrel
    have HNO:=Lh hno
    have HLK:=Lh (HL3.out.below hb3)
    have HBW:=Lh hb
    have HB3W:=Lh hb3
    clear hno hb hb3
    by_cases hlt:k<l.length
    ·have HEK:=Lh (fun h=>fe_hit hlt HNO.out h)
     have HBA:=Lh (HBW.out.alloc HBW.out.size (.cells (l[k]).cs 56))
     have HB3A:=Lh (HB3W.out.alloc HB3W.out.size (.cells (l[k]).cs 56))
     have HVD:=Lh (fun w=>validate_any l[k] w)
     obtain ⟨b,o,rfl,hb,c0,c1,c2,c3,c4,c5,c6⟩:=HLK.out.at_ hlt
     by_cases he:vf l[k]=0
     ·rw [he] at HVD
      have HNN:=Lh (show ∀ j (hj:j<l.length),j<k+1→vf l[j]=0 from fun j hj h=>by
       by_cases e:j=k
       ·subst e;exact he
       ·exact HNO.out j hj (by omega))
      clear he HEK
      generalize l[k]=X at*
      go_wp2_with fail
      refine (HVD.out _).mono ?_
      rintro e w4 ⟨rfl,hb4⟩
      have HB4:=Lh (HBA.out.trans (hb4.mono HBA.out.size))
      have HB34:=Lh (HB3A.out.trans (hb4.mono HB3A.out.size))
      clear hb4
      go_wp2
      go_roundw
      case rel=>exact ⟨k+1,by omega,by go_num,HB4.out,HB34.out,HNN.out⟩
      case measure=>simp [intOf];omega
     ·have HR:=Lh (show R=vf l[k] by rw [←HEK.out he];exact HE.out (by rw [HEK.out he];exact he))
      have hne:(vf l[k] != 0)=true:=bne_iff_ne.2 he
      clear he HEK
      generalize l[k]=X at*
      generalize vf X=x at*
      go_wp2_with fail
      refine (HVD.out _).mono ?_
      rintro e w4 ⟨rfl,hb4⟩
      have HB4:=Lh (HBA.out.trans (hb4.mono HBA.out.size))
      clear hb4
      go_wp2
      go_ret
      exact ⟨ret_i64 HR.out.symm,HB4.out⟩
    ·have HFE:=Lh (show fe l=0 from fe_all fun M hM=>by
      obtain ⟨j,hj,rfl⟩:=List.getElem_of_mem hM
      exact HNO.out j hj (by omega))
     have HSI:=Lh (sameid_any A2 l.length c2 l wr (HLK.out.more HB3W.out.size))
     cases hd:dpB l with
     | true=>
      have HR:=Lh (HD.out HFE.out (dpB_of hd))
      rw [hd] at HSI
      clear hd
      go_wp2_with fail
      refine HSI.out.mono ?_
      rintro e w4 ⟨rfl,hb4⟩
      have HB4:=Lh (HBW.out.trans (hb4.mono HBW.out.size))
      clear hb4
      go_wp2
      go_ret
      exact ⟨ret_i64 HR.out.symm,HB4.out⟩
     | false=>
      have HR:=Lh (HK.out HFE.out (dpB_not hd))
      rw [hd] at HSI
      clear hd
      go_wp2_with fail
      refine HSI.out.mono ?_
      rintro e w4 ⟨rfl,hb4⟩
      have HB4:=Lh (HBW.out.trans (hb4.mono HBW.out.size))
      clear hb4
      go_wp2
      go_ret
      exact ⟨ret_i64 HR.out.symm,HB4.out⟩
noncomputable def lsF (cs:List Msg) (hd sz:Int):List Msg:=if rgV cs hd sz=0 then ord cs hd.toNat sz.toNat else []
noncomputable def puE (cs:List Msg) (hd sz:Int) (M:Msg):Int:=if rgV cs hd sz≠0 then rgV cs hd sz else if vf M≠0 then vf M else if sz=cs.length then 3 else if 0≤ixF (ord cs hd.toNat sz.toNat) M.id then 10 else 0
theorem puE_zero {cs:List Msg} {hd sz:Int} {M:Msg} (h:puE cs hd sz M=0):rgV cs hd sz=0∧vf M=0∧sz≠cs.length∧¬0≤ixF (ord cs hd.toNat sz.toNat) M.id:=by
 unfold puE at h
 by_cases h0:rgV cs hd sz=0
 ·rw [if_neg (by simpa using h0)] at h
  by_cases h1:vf M=0
  ·rw [if_neg (by simpa using h1)] at h
   by_cases h2:sz=cs.length
   ·rw [if_pos h2] at h;exact absurd h (by decide)
   ·rw [if_neg h2] at h
    by_cases h3:0≤ixF (ord cs hd.toNat sz.toNat) M.id
    ·rw [if_pos h3] at h;exact absurd h (by decide)
    ·exact ⟨h0,h1,h2,h3⟩
  ·rw [if_pos h1] at h;exact absurd h h1
 ·rw [if_pos h0] at h;exact absurd h h0
set_option maxHeartbeats 2000000 in
theorem glist_any (A:Option Addr) (n c:Nat) (cs:List Msg) (hd sz:Int) (w:World) (hv:Ls w w.heap.size (.slice A n c) cs) :
  Calls Tryz.prog 93 #[.agg #[.slice A n c,.int .i64 hd,.int .i64 sz]] w (LsP (lsF cs hd sz) w):=by
 obtain ⟨rfl,_,_⟩:=hv.len
 have HV:=Lh hv
 have HS:=Lh (RgAt.start w A cs.length c hd sz 27)
 have HG:=Lh (fun w1 (h:Ls w1 w1.heap.size (.slice A cs.length c) cs)=>gvalid_any A cs.length c cs hd sz w1 h)
 clear hv
 by_cases h0:rgV cs hd sz=0
 ·obtain ⟨hn,_,_,_⟩:=rgV_zero h0
  obtain ⟨⟨n1,n2⟩,⟨h1,h2⟩,⟨s1,s2⟩⟩:=nm_of hn
  obtain ⟨hd,rfl⟩:=Int.eq_ofNat_of_zero_le h1
  obtain ⟨sz,rfl⟩:=Int.eq_ofNat_of_zero_le s1
  have HO:=Lh (fun w1 (h:Ls w1 w1.heap.size (.slice A cs.length c) cs)=>ordered_any A cs.length c cs hd sz w1 h hn)
  have HF:=Lh (show lsF cs hd sz=ord cs hd sz from if_pos h0)
  rw [h0] at HG
  clear h0 hn n1 n2 h1 h2 s1 s2
  go_enter Tryz.func93,Tryz.ntmps93
  go_wp2_with fail
  refine (HG.out _ ((HV.out.below HS.out.bel).more HS.out.bel.size)).mono ?_
  rintro e w1 ⟨rfl,hb⟩
  have HR1:=Lh (HS.out.below hb)
  obtain ⟨r0,r1,r2,hp⟩:=HR1.out.facts
  clear hb
  go_wp2_with fail
  refine (HO.out _ ((HV.out.below HR1.out.bel).more HR1.out.bel.size)).mono ?_
  rintro e w2 ⟨v,rfl,hnw,hl,hb⟩
  have HNV:=Lh (nwv_low hnw HR1.out.bel.size)
  clear hnw
  have HL:=Lh hl
  have HB:=Lh (HR1.out.bel.trans (hb.mono HR1.out.bel.size))
  clear hl hb
  go_wp2
  go_ret
  exact ⟨_,rfl,HNV.out,by rw [HF.out];exact HL.out,HB.out⟩
 ·have HF:=Lh (show lsF cs hd sz=[] from if_neg h0)
  have hne:(rgV cs hd sz != 0)=true:=bne_iff_ne.2 h0
  generalize rgV cs hd sz=x at*
  clear h0
  go_enter Tryz.func93,Tryz.ntmps93
  go_wp2_with fail
  refine (HG.out _ ((HV.out.below HS.out.bel).more HS.out.bel.size)).mono ?_
  rintro e w1 ⟨rfl,hb⟩
  have HR1:=Lh (HS.out.below hb)
  clear hb
  go_wp2
  go_ret
  exact ⟨_,rfl,nwv_mk nw_none,by rw [HF.out];exact Ls.nil,HR1.out.bel⟩
def Msg.nth (M:Msg):Nat→Int
 | 0=>M.id
 | 1=>M.rt
 | 2=>M.ep
 | 3=>M.ct
 | 4=>M.gn
 | _=>M.st
structure RmAt (w:World) (p q:Nat) (A:Option Addr) (n c:Nat) (hd sz:Int) (M:Msg) (W:World):Prop where
 rg:RgAt w p A n c hd sz W
 ms:MAt W q M.nth M.bd
 ne:p<q
section
variable {w W W' : World} {p q n c:Nat} {A:Option Addr} {hd sz:Int} {M:Msg}
theorem RmAt.below (h:RmAt w p q A n c hd sz M W) (hb:Below W.heap.size W W'):RmAt w p q A n c hd sz M W':=⟨h.rg.below hb,h.ms.below hb h.ms.1,h.ne⟩
theorem RmAt.drew (h:RmAt w p q A n c hd sz M W):RmAt w p q A n c hd sz M W.drew:=⟨h.rg.drew,h.ms,h.ne⟩
theorem RmAt.facts (h:RmAt w p q A n c hd sz M W):(W.cell? ⟨p,0,none⟩=some (.slice A n c)∧W.cell? ⟨p,1,none⟩=some (.int .i64 hd)∧W.cell? ⟨p,2,none⟩=some (.int .i64 sz)∧p<W.heap.size)∧(W.cell? ⟨q,0,none⟩=some (.int .i64 M.id)∧W.cell? ⟨q,1,none⟩=some (.int .i64 M.rt)∧W.cell? ⟨q,2,none⟩=some (.int .i64 M.ep)∧W.cell? ⟨q,3,none⟩=some (.int .i64 M.ct)∧W.cell? ⟨q,4,none⟩=some (.int .i64 M.gn)∧W.cell? ⟨q,5,none⟩=some (.int .i64 M.st)∧W.cell? ⟨q,6,none⟩=some (.string M.bd))∧q<W.heap.size:=
 ⟨h.rg.facts,h.ms.facts.1,h.ms.1⟩
theorem RmAt.start (w:World) (A:Option Addr) (n c:Nat) (hd sz:Int) (M:Msg) (t u:TypeId):RmAt w w.heap.size (w.heap.size+1) A n c hd sz M ((w.alloc (.cells #[.slice A n c,.int .i64 hd,.int .i64 sz] t)).alloc (.cells M.cs u)):=by
 refine ⟨(RgAt.start w A n c hd sz t).alloc _,?_,Nat.lt_succ_self _⟩
 have h:=MAt.fresh (f:=M.nth) (w.alloc (.cells #[.slice A n c,.int .i64 hd,.int .i64 sz] t)) M.id M.rt M.ep M.ct M.gn M.st M.bd u rfl rfl rfl rfl rfl rfl
 have e:(w.alloc (.cells #[.slice A n c,.int .i64 hd,.int .i64 sz] t)).heap.size=w.heap.size+1:=by simp
 rw [e] at h
 exact h
end
theorem Ls.up {w W:World} {v:Value} {l:List Msg} (h:Ls w w.heap.size v l) (hb:Below w.heap.size w W):Ls W W.heap.size v l:=(h.below hb).more hb.size
set_option maxHeartbeats 4000000 in
theorem pusherr_any (A:Option Addr) (n c:Nat) (cs:List Msg) (hd sz:Int) (M:Msg) (w:World) (hv:Ls w w.heap.size (.slice A n c) cs) :
  Calls Tryz.prog 103 #[.agg #[.slice A n c,.int .i64 hd,.int .i64 sz],M.v] w (VlT w (puE cs hd sz M)):=by
 obtain ⟨rfl,_,_⟩:=hv.len
 have HV:=Lh hv
 have HS:=Lh (RmAt.start w A cs.length c hd sz M 27 56)
 have HG:=Lh (fun w1 (h:Ls w1 w1.heap.size (.slice A cs.length c) cs)=>gvalid_any A cs.length c cs hd sz w1 h)
 have HM:=Lh (fun w1=>validate_any M w1)
 clear hv
 by_cases h0:rgV cs hd sz=0
 ·by_cases h1:vf M=0
  ·by_cases h2:sz=cs.length
   ·have HF:=Lh (show puE cs hd sz M=3 by unfold puE;rw [if_neg (by simpa using h0),if_neg (by simpa using h1),if_pos h2])
    rw [h0] at HG
    rw [h1] at HM
    subst h2
    clear h0 h1
    go_enter Tryz.func103,Tryz.ntmps103
    go_wp2_with fail
    refine (HG.out _ (HV.out.up HS.out.rg.bel)).mono ?_
    rintro e w1 ⟨rfl,hb⟩
    have HR1:=Lh (HS.out.below hb)
    obtain ⟨⟨r0,r1,r2,hp⟩,⟨m0,m1,m2,m3,m4,m5,m6⟩,hq⟩:=HR1.out.facts
    clear hb
    go_wp2_with fail
    refine (HM.out _).mono ?_
    rintro e w2 ⟨rfl,hb⟩
    have HR2:=Lh (HR1.out.below hb)
    clear hb r0 r1 r2 hp m0 m1 m2 m3 m4 m5 m6 hq
    obtain ⟨⟨r0,r1,r2,hp⟩,⟨m0,m1,m2,m3,m4,m5,m6⟩,hq⟩:=HR2.out.facts
    go_wp2
    go_ret
    exact ⟨ret_i64 HF.out.symm,HR2.out.rg.bel⟩
   ·have h2' : (sz==(cs.length:Int))=false:=beq_eq_false_iff_ne.2 h2
    obtain ⟨hn,_,_,_⟩:=rgV_zero h0
    obtain ⟨⟨n1,n2⟩,⟨k1,k2⟩,⟨s1,s2⟩⟩:=nm_of hn
    obtain ⟨hd,rfl⟩:=Int.eq_ofNat_of_zero_le k1
    obtain ⟨sz,rfl⟩:=Int.eq_ofNat_of_zero_le s1
    have HO:=Lh (fun w1 (h:Ls w1 w1.heap.size (.slice A cs.length c) cs)=>ordered_any A cs.length c cs hd sz w1 h hn)
    have HF:=Lh (show puE cs hd sz M=if 0≤ixF (ord cs hd sz) M.id then 10 else 0 by unfold puE;rw [if_neg (by simpa using h0),if_neg (by simpa using h1),if_neg h2];simp only [Int.toNat_natCast])
    have HFI:=Lh (fun v w1 (h:Ls w1 w1.heap.size v (ord cs hd sz))=>(show ∃ A' n' c',v=.slice A' n' c' from by obtain ⟨A',c',e,_⟩:=h.form;exact ⟨A',_,c',e⟩))
    have HFN:=Lh (fun A' n' c' w1 (h:Ls w1 w1.heap.size (.slice A' n' c') (ord cs hd sz))=>find_any A' n' c' (ord cs hd sz) M.id w1 h)
    have HIL:=Lh (ixF_lt (ord cs hd sz) M.id).1
    generalize ixF (ord cs hd sz) M.id=r at*
    generalize ord cs hd sz=l at*
    rw [h0] at HG
    rw [h1] at HM
    clear h0 h1 h2 hn n1 n2 k1 k2 s1 s2
    by_cases hr:0≤r
    ·have HF':=Lh (HF.out.trans (if_pos hr))
     go_enter Tryz.func103,Tryz.ntmps103
     go_wp2_with fail
     refine (HG.out _ (HV.out.up HS.out.rg.bel)).mono ?_
     rintro e w1 ⟨rfl,hb⟩
     have HR1:=Lh (HS.out.below hb)
     obtain ⟨⟨r0,r1,r2,hp⟩,⟨m0,m1,m2,m3,m4,m5,m6⟩,hq⟩:=HR1.out.facts
     clear hb
     go_wp2_with fail
     refine (HM.out _).mono ?_
     rintro e w2 ⟨rfl,hb⟩
     have HR2:=Lh (HR1.out.below hb)
     clear hb r0 r1 r2 hp m0 m1 m2 m3 m4 m5 m6 hq
     obtain ⟨⟨r0,r1,r2,hp⟩,⟨m0,m1,m2,m3,m4,m5,m6⟩,hq⟩:=HR2.out.facts
     go_wp2
     go_region_with (first
      | (go_at_call 145;refine (HO.out _ (HV.out.up HR2.out.drew.rg.bel)).mono ?_;rintro e w3 ⟨v,rfl,hnw,hl,hb⟩;clear hnw;obtain ⟨A3,n3,c3,rfl⟩:=HFI.out _ _ hl;have HR3:=Lh (HR2.out.drew.below hb);have HL3:=Lh hl;obtain ⟨⟨t0,t1,t2,hp3⟩,⟨x0,x1,x2,x3,x4,x5,x6⟩,hq3⟩:=HR3.out.facts;clear hl hb)
      | (go_at_call 146;refine (HFN.out _ _ _ _ HL3.out).mono ?_;rintro e w4 ⟨rfl,hb⟩;have HR4:=Lh (HR3.out.below hb);clear hb))
     all_goals
      go_wp2
      go_ret
      exact ⟨ret_i64 HF'.out.symm,HR4.out.rg.bel⟩
    ·have HF':=Lh (HF.out.trans (if_neg hr))
     have hr1:r = -1:=by have:=HIL.out;omega
     subst hr1
     clear hr
     go_enter Tryz.func103,Tryz.ntmps103
     go_wp2_with fail
     refine (HG.out _ (HV.out.up HS.out.rg.bel)).mono ?_
     rintro e w1 ⟨rfl,hb⟩
     have HR1:=Lh (HS.out.below hb)
     obtain ⟨⟨r0,r1,r2,hp⟩,⟨m0,m1,m2,m3,m4,m5,m6⟩,hq⟩:=HR1.out.facts
     clear hb
     go_wp2_with fail
     refine (HM.out _).mono ?_
     rintro e w2 ⟨rfl,hb⟩
     have HR2:=Lh (HR1.out.below hb)
     clear hb r0 r1 r2 hp m0 m1 m2 m3 m4 m5 m6 hq
     obtain ⟨⟨r0,r1,r2,hp⟩,⟨m0,m1,m2,m3,m4,m5,m6⟩,hq⟩:=HR2.out.facts
     go_wp2
     go_region_with (first
      | (go_at_call 145;refine (HO.out _ (HV.out.up HR2.out.drew.rg.bel)).mono ?_;rintro e w3 ⟨v,rfl,hnw,hl,hb⟩;clear hnw;obtain ⟨A3,n3,c3,rfl⟩:=HFI.out _ _ hl;have HR3:=Lh (HR2.out.drew.below hb);have HL3:=Lh hl;obtain ⟨⟨t0,t1,t2,hp3⟩,⟨x0,x1,x2,x3,x4,x5,x6⟩,hq3⟩:=HR3.out.facts;clear hl hb)
      | (go_at_call 146;refine (HFN.out _ _ _ _ HL3.out).mono ?_;rintro e w4 ⟨rfl,hb⟩;have HR4:=Lh (HR3.out.below hb);clear hb))
     all_goals
      go_wp2
      go_ret
      exact ⟨ret_i64 HF'.out.symm,HR4.out.rg.bel⟩
  ·have HF:=Lh (show puE cs hd sz M=vf M by unfold puE;rw [if_neg (by simpa using h0),if_pos h1])
   have hne:(vf M != 0)=true:=bne_iff_ne.2 h1
   generalize vf M=x at*
   rw [h0] at HG
   clear h0 h1
   go_enter Tryz.func103,Tryz.ntmps103
   go_wp2_with fail
   refine (HG.out _ (HV.out.up HS.out.rg.bel)).mono ?_
   rintro e w1 ⟨rfl,hb⟩
   have HR1:=Lh (HS.out.below hb)
   obtain ⟨⟨r0,r1,r2,hp⟩,⟨m0,m1,m2,m3,m4,m5,m6⟩,hq⟩:=HR1.out.facts
   clear hb
   go_wp2_with fail
   refine (HM.out _).mono ?_
   rintro e w2 ⟨rfl,hb⟩
   have HR2:=Lh (HR1.out.below hb)
   clear hb r0 r1 r2 hp m0 m1 m2 m3 m4 m5 m6 hq
   go_wp2
   go_ret
   exact ⟨ret_i64 HF.out.symm,HR2.out.rg.bel⟩
 ·have HF:=Lh (show puE cs hd sz M=rgV cs hd sz from if_pos h0)
  have hne:(rgV cs hd sz != 0)=true:=bne_iff_ne.2 h0
  generalize rgV cs hd sz=x at*
  clear h0
  go_enter Tryz.func103,Tryz.ntmps103
  go_wp2_with fail
  refine (HG.out _ (HV.out.up HS.out.rg.bel)).mono ?_
  rintro e w1 ⟨rfl,hb⟩
  have HR1:=Lh (HS.out.below hb)
  clear hb
  go_wp2
  go_ret
  exact ⟨ret_i64 HF.out.symm,HR1.out.rg.bel⟩
theorem mod_inj {n hd j k:Nat} (hj:j<n) (hk:k<n) (h:(hd+j) % n=(hd+k) % n):j=k:=by
 have h1:((hd % n)+j) % n=((hd % n)+k) % n:=by rw [Nat.mod_add_mod,Nat.mod_add_mod];exact h
 have hh:hd % n<n:=Nat.mod_lt _ (by omega)
 generalize hd % n=x at*
 rcases Nat.lt_or_ge (x+j) n with a | a <;> rcases Nat.lt_or_ge (x+k) n with b | b
 ·rw [Nat.mod_eq_of_lt a,Nat.mod_eq_of_lt b] at h1;omega
 ·rw [Nat.mod_eq_of_lt a,Nat.mod_eq_sub_mod b,Nat.mod_eq_of_lt (show x+k - n<n by omega)] at h1;omega
 ·rw [Nat.mod_eq_of_lt b,Nat.mod_eq_sub_mod a,Nat.mod_eq_of_lt (show x+j - n<n by omega)] at h1;omega
 ·rw [Nat.mod_eq_sub_mod a,Nat.mod_eq_of_lt (show x+j - n<n by omega),Nat.mod_eq_sub_mod b,Nat.mod_eq_of_lt (show x+k - n<n by omega)] at h1;omega
theorem row_fil {n hd:Nat} {g:Nat→Msg} {l:List Msg} (hh:hd<n) (h:∀ k,k<n→g ((hd+k) % n)=l.getD k zM):(List.range n).map g=fil n hd l:=by
 refine cel_ext (hd:=hd) (by rw [fil_len];simp) (by simpa using hh) fun k hk=>?_
 have hk' : k<n:=by simpa using hk
 rw [cel_fil l hh hk',←h k hk']
 have hm:(hd+k) % n<n:=Nat.mod_lt _ (by omega)
 simp [cel,List.getD,hm]
theorem getD_cel {cs:List Msg} {hd k:Nat}:cs.getD ((hd+k) % cs.length) zM=cel cs hd k:=rfl
theorem ord_getD {cs:List Msg} {hd sz k:Nat} (hk:k<sz):(ord cs hd sz).getD k zM=cel cs hd k:=by
 simp [List.getD,ord,hk]
theorem ord_getD_out {cs:List Msg} {hd sz k:Nat} (hk:sz≤k):(ord cs hd sz).getD k zM=zM:=by
 rw [List.getD_eq_getElem?_getD,List.getElem?_eq_none (by rw [ord_len];exact hk)]
 rfl
theorem push_back_cells {cs:List Msg} {hd sz:Nat} (hh:hd<cs.length) (hs:sz<cs.length) (hz:∀ k,sz≤k→k<cs.length→cel cs hd k=zM) (M:Msg) :
  (List.range cs.length).map (fun i=>if i=(hd+sz) % cs.length then M else cs.getD i zM)=fil cs.length hd (ord cs hd sz++[M]):=by
 refine row_fil hh fun k hk=>?_
 by_cases e:k=sz
 ·subst e
  simp only [if_true]
  rw [List.getD_eq_getElem?_getD,List.getElem?_append_right (by rw [ord_len];exact Nat.le_refl _),ord_len,Nat.sub_self]
  rfl
 ·simp only [if_neg (fun h=>e (mod_inj hk hs h))]
  rw [getD_cel]
  by_cases hlt:k<sz
  ·rw [List.getD_eq_getElem?_getD,List.getElem?_append_left (by rw [ord_len];exact hlt),←List.getD_eq_getElem?_getD,ord_getD hlt]
  ·rw [hz k (by omega) hk,List.getD_eq_getElem?_getD,List.getElem?_eq_none (by simp [ord_len];omega)]
   rfl
theorem push_front_cells {cs:List Msg} {hd sz:Nat} (hh:hd<cs.length) (hs:sz<cs.length) (hz:∀ k,sz≤k→k<cs.length→cel cs hd k=zM) (M:Msg) :
  (List.range cs.length).map (fun i=>if i=(hd+(cs.length - 1)) % cs.length then M else cs.getD i zM)=fil cs.length ((hd+(cs.length - 1)) % cs.length) (M::ord cs hd sz):=by
 have hn:0<cs.length:=by omega
 refine row_fil (Nat.mod_lt _ hn) fun k hk=>?_
 cases k with
 | zero=>
  have e:((hd+(cs.length - 1)) % cs.length+0) % cs.length=(hd+(cs.length - 1)) % cs.length:=by rw [Nat.add_zero,Nat.mod_mod]
  simp only [e,if_true]
  rfl
 | succ k=>
  have e:((hd+(cs.length - 1)) % cs.length+(k+1)) % cs.length=(hd+k) % cs.length:=by
   rw [Nat.mod_add_mod,show hd+(cs.length - 1)+(k+1)=hd+k+cs.length by omega,Nat.add_mod_right]
  have ne:(hd+k) % cs.length≠(hd+(cs.length - 1)) % cs.length:=fun h=>by
   have:=mod_inj (by omega) (by omega) h;omega
  simp only [e,if_neg ne]
  rw [getD_cel,List.getD_cons_succ]
  by_cases hlt:k<sz
  ·rw [ord_getD hlt]
  ·rw [hz k (by omega) (by omega),ord_getD_out (by omega)]
theorem without_cells {cs:List Msg} {hd sz x:Nat} (hh:hd<cs.length) (hx:x<sz) (hs:sz≤cs.length) (hz:∀ k,sz≤k→k<cs.length→cel cs hd k=zM) {g:Nat→Msg} (hg:∀ k,k<cs.length→g ((hd+k) % cs.length)=if k<x then cel cs hd k else if k+1<sz then cel cs hd (k+1) else zM) :
  (List.range cs.length).map g=fil cs.length hd ((ord cs hd sz).eraseIdx x):=by
 refine row_fil hh fun k hk=>?_
 rw [hg k hk]
 simp only [List.getD_eq_getElem?_getD,List.getElem?_eraseIdx]
 by_cases hlt:k<x
 ·rw [if_pos hlt,if_pos hlt,←List.getD_eq_getElem?_getD,ord_getD (by omega)]
 ·rw [if_neg hlt,if_neg hlt]
  by_cases h2:k+1<sz
  ·rw [if_pos h2,←List.getD_eq_getElem?_getD,ord_getD h2]
  ·rw [if_neg h2,←List.getD_eq_getElem?_getD,ord_getD_out (by omega)]
structure RB (W:World) (p:Nat) (A:Option Addr) (n c:Nat) (hd sz:Int):Prop where
 lt:p<W.heap.size
 c0:W.cell? ⟨p,0,none⟩=some (.slice A n c)
 c1:W.cell? ⟨p,1,none⟩=some (.int .i64 hd)
 c2:W.cell? ⟨p,2,none⟩=some (.int .i64 sz)
 fr:∀ o,W.frozen? ⟨p,o,none⟩=false
section
variable {W W' : World} {p n c:Nat} {A:Option Addr} {hd sz:Int}
theorem RB.facts (h:RB W p A n c hd sz):W.cell? ⟨p,0,none⟩=some (.slice A n c)∧W.cell? ⟨p,1,none⟩=some (.int .i64 hd)∧W.cell? ⟨p,2,none⟩=some (.int .i64 sz)∧W.frozen? ⟨p,0,none⟩=false∧W.frozen? ⟨p,1,none⟩=false∧W.frozen? ⟨p,2,none⟩=false∧p<W.heap.size:=⟨h.c0,h.c1,h.c2,h.fr 0,h.fr 1,h.fr 2,h.lt⟩
theorem RB.below {B:Nat} (h:RB W p A n c hd sz) (hb:Below B W W') (hp:p<B):RB W' p A n c hd sz:=
 ⟨Nat.lt_of_lt_of_le h.lt hb.size,(hb.cell (p:=⟨p,0,none⟩) hp).trans h.c0,(hb.cell (p:=⟨p,1,none⟩) hp).trans h.c1,(hb.cell (p:=⟨p,2,none⟩) hp).trans h.c2,fun o=>(hb.frozen (p:=⟨p,o,none⟩) hp).trans (h.fr o)⟩
theorem RB.drew (h:RB W p A n c hd sz):RB W.drew p A n c hd sz:=⟨h.lt,h.c0,h.c1,h.c2,h.fr⟩
theorem RB.alloc (h:RB W p A n c hd sz) (o:Obj):RB (W.alloc o) p A n c hd sz:=h.below (W':=W.alloc o) ((Below.refl W.heap.size W).alloc (Nat.le_refl _) o) h.lt
theorem RB.other (h:RB W p A n c hd sz) {a:Addr} (ha:a.block≠p) (v:Value):RB (W.setCell a v) p A n c hd sz:=by
 have e:∀ o,(W.setCell a v).cell? ⟨p,o,none⟩=W.cell? ⟨p,o,none⟩:=fun o=>World.cell?_setCell_other W _ _ v (fun e=>ha (by rw [e]))
 exact ⟨by simpa using h.lt,(e 0).trans h.c0,(e 1).trans h.c1,(e 2).trans h.c2,fun o=>by rw [World.frozen?_setCell];exact h.fr o⟩
theorem RB.sets (h:RB W p A n c hd sz) {b:Nat} (hb:b≠p) (m:Nat) (vs:List Value):RB (W.setCells b m vs) p A n c hd sz:=
 ⟨by rw [sets_size];exact h.lt,(sets_far (p:=⟨p,0,none⟩) (fun e=>hb e.symm) m vs).trans h.c0,(sets_far (p:=⟨p,1,none⟩) (fun e=>hb e.symm) m vs).trans h.c1,(sets_far (p:=⟨p,2,none⟩) (fun e=>hb e.symm) m vs).trans h.c2,fun o=>by rw [World.frozen?_setCells];exact h.fr o⟩
theorem RB.setA (h:RB W p A n c hd sz) (A' : Option Addr) (n' c' : Nat):RB (W.setCell ⟨p,0,none⟩ (.slice A' n' c')) p A' n' c' hd sz:=
 ⟨by simpa using h.lt,World.cell?_setCell_same' W _ _ (by rw [h.c0];rfl),(World.cell?_setCell_other W _ _ _ (fun e=>by injection e;omega)).trans h.c1,(World.cell?_setCell_other W _ _ _ (fun e=>by injection e;omega)).trans h.c2,fun o=>by rw [World.frozen?_setCell];exact h.fr o⟩
theorem RB.setH (h:RB W p A n c hd sz) (x:Int):RB (W.setCell ⟨p,1,none⟩ (.int .i64 x)) p A n c x sz:=
 ⟨by simpa using h.lt,(World.cell?_setCell_other W _ _ _ (fun e=>by injection e;omega)).trans h.c0,World.cell?_setCell_same' W _ _ (by rw [h.c1];rfl),(World.cell?_setCell_other W _ _ _ (fun e=>by injection e;omega)).trans h.c2,fun o=>by rw [World.frozen?_setCell];exact h.fr o⟩
theorem RB.setS (h:RB W p A n c hd sz) (x:Int):RB (W.setCell ⟨p,2,none⟩ (.int .i64 x)) p A n c hd x:=
 ⟨by simpa using h.lt,(World.cell?_setCell_other W _ _ _ (fun e=>by injection e;omega)).trans h.c0,(World.cell?_setCell_other W _ _ _ (fun e=>by injection e;omega)).trans h.c1,World.cell?_setCell_same' W _ _ (by rw [h.c2];rfl),fun o=>by rw [World.frozen?_setCell];exact h.fr o⟩
theorem RB.fresh (w:World) (A:Option Addr) (n c:Nat) (hd sz:Int) (t:TypeId):RB (w.alloc (.cells #[.slice A n c,.int .i64 hd,.int .i64 sz] t)) w.heap.size A n c hd sz:=
 ⟨by simp,by simp [go_sem],by simp [go_sem],by simp [go_sem],fun o=>by simp [go_sem]⟩
theorem MAt.sets {q b:Nat} {f:Nat→Int} {s:ByteArray} (h:MAt W q f s) (hb:b≠q) (m:Nat) (vs:List Value):MAt (W.setCells b m vs) q f s:=
 ⟨by rw [sets_size];exact h.1,fun j hj=>(sets_far (p:=⟨q,j,none⟩) (fun e=>hb e.symm) m vs).trans (h.2.1 j hj),(sets_far (p:=⟨q,6,none⟩) (fun e=>hb e.symm) m vs).trans h.2.2.1,fun o ho=>by rw [World.frozen?_setCells];exact h.2.2.2 o ho⟩
theorem MRow.ls' {q m cap:Nat} {f:Nat→Msg} {l:List Msg} (h:MRow W q m f) (hl:(List.range m).map f=l) (hc:m≤cap) (hm:cap≤maxLen):Ls W W.heap.size (.slice (some ⟨q,0,none⟩) m cap) l:=by
 rw [←hl];exact h.ls m cap (Nat.le_refl _) hc hm
end
def RP (w:World) (cs:List Msg) (hd sz x:Int) (e:Ending) (w' : World):Prop:=∃ A c,e=.returned (.tuple #[.agg #[.slice A cs.length c,.int .i64 hd,.int .i64 sz],.int .i64 x])∧Nw w.heap.size A∧Ls w' w'.heap.size (.slice A cs.length c) cs∧Below w.heap.size w w'
end Go.Proofs.YtncgbldcjfbknaaGreat
