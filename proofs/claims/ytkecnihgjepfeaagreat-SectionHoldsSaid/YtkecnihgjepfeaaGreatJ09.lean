/- What is proved here: parts of the proof: Dfi Dva Rtv Rlb Dcl Dsu. -/
import Derived.Test.YtkecnihgjepfeaaGreatJ08
import Derived.BigRegion
namespace Go.Proofs.YtkecnihgjepfeaaGreat
open Go.RowKit
set_option linter.unusedVariables false
set_option linter.unusedSimpArgs false
set_option maxHeartbeats 8000000
set_option maxRecDepth 20000
theorem drew_bel {W W' : World} (h:Below W.drew.heap.size W.drew W'):Below W.heap.size W W':=((Below.refl W.heap.size W).drew).trans h
section
variable {w:World} {B:Nat} {A:Option Addr} {n c:Nat} {l:List Du}
theorem Dl.atg {k:Nat} (h:Dl w B (.slice A n c) l) (hk:k<l.length):∃ b o,A=some ⟨b,o,none⟩/\b<B/\w.cell? ⟨b,o+k*2,none⟩=some (.int .i64 (ge l k).dl)/\w.cell? ⟨b,o+k*2+1,none⟩=some (.int .i64 (ge l k).id):=by
 obtain ⟨b,o,e,hb,c0,c1⟩:=h.at_ hk
 rw [ge_get hk] at c0 c1
 exact ⟨b,o,e,hb,c0,c1⟩
end
theorem dfind1_any (d:Du) (id:Int) (p:Nat) (w:World) (hp:p<w.heap.size) (hc:w.cell? ⟨p,0,none⟩=some (.int .i64 id)) :
  Calls Tryz.prog 211 #[d.v,.pointer (some ⟨p,0,none⟩)] w fun e w'=>e=.returned (.bool (decide (d.id=id)))/\Below w.heap.size w w':=by
 have HB:=Lh ((Below.refl w.heap.size w).alloc (nLR _) (.cells #[.int .i64 d.dl,.int .i64 d.id] 155))
 have HD:=Lh (show (d.id==id)=decide (d.id=id) by rw [Bool.eq_iff_iff];simp)
 go_enter Tryz.func211,Tryz.ntmps211
 go_wp2
 go_ret
 exact ⟨by rw [<-HD.out];rfl,HB.out⟩
theorem dixfunc_any (A:Option Addr) (n c:Nat) (l:List Du) (id:Int) (p:Nat) (w:World) (hv:Dl w w.heap.size (.slice A n c) l) (hp:p<w.heap.size) (hc:w.cell? ⟨p,0,none⟩=some (.int .i64 id)) :
  Calls Tryz.prog 204 #[.slice A n c,.func (.func 211) #[] #[.pointer (some ⟨p,0,none⟩)]] w fun e w'=>e=.returned (.int .i64 (ixD l id))/\Below w.heap.size w w':=by
 obtain ⟨rfl,hm1,hm2⟩:=hv.len
 have hL:l.length<=9223372036854775807:=by unfold maxLen at hm2;omega
 have HV:=Lh hv
 have HP:=Lh hp
 have HC:=Lh hc
 have HB:=Lh (Below.refl w.heap.size w)
 clear hv hm1 hm2 hp hc
 go_enter Tryz.func204,Tryz.ntmps204
 go_wp2
 go_loopw [8] (fun i wr=>∃ k:Nat,k<=l.length/\i=.int .i64 k/\Below w.heap.size w wr/\∀ j,j<k->(ge l j).id≠id) (fun i _=>l.length - (intOf i).toNat)
 case atStart=>exact ⟨0,by omega,rfl,HB.out,fun j h=>absurd h (by omega)⟩
 case round=>
  obtain ⟨k,hk,rfl,hb,hno⟩:=hrel
  have HN:=Lh hno
  have HVK:=Lh (HV.out.below hb)
  have HPK:=Lh (Nat.lt_of_lt_of_le HP.out hb.size)
  have HCK:=Lh ((hb.cell (p:=⟨p,0,none⟩) HP.out).trans HC.out)
  have HB:=Lh hb
  clear hno hb
  by_cases hlt:k<l.length
  ·obtain ⟨b,o,rfl,hb,c0,c1⟩:=HVK.out.atg hlt
   have HF:=Lh (fun w1 hp hc=>dfind1_any (ge l k) id p w1 hp hc)
   by_cases he:(ge l k).id=id
   ·have HR:=Lh (ixD_hit hlt he HN.out)
    rw [decide_eq_true he] at HF
    clear he
    generalize ge l k=M at*
    go_wp2_with fail
    refine (HF.out _ HPK.out HCK.out).mono ?_
    rintro e w1 ⟨rfl,hb1⟩
    have HB1:=Lh (HB.out.trans (hb1.mono HB.out.size))
    clear hb1
    go_wp2
    go_ret
    exact ⟨by rw [HR.out];rfl,HB1.out⟩
   ·have HNN:=Lh (show ∀ j,j<k+1->(ge l j).id≠id from fun j h=>by
     by_cases e:j=k
     ·rw [e];exact he
     ·exact HN.out j (by omega))
    rw [decide_eq_false he] at HF
    clear he
    generalize ge l k=M at*
    go_wp2_with fail
    refine (HF.out _ HPK.out HCK.out).mono ?_
    rintro e w1 ⟨rfl,hb1⟩
    have HB1:=Lh (HB.out.trans (hb1.mono HB.out.size))
    clear hb1
    go_wp2
    go_roundw
    case rel=>exact ⟨k+1,by omega,by go_num,HB1.out,HNN.out⟩
    case measure=>simp [intOf];omega
  ·have HR:=Lh (ixD_none (id:=id) (fun j hj=>HN.out j (by omega)))
   go_wp2
   go_ret
   exact ⟨by rw [HR.out];rfl,HB.out⟩
theorem dfind_any (A:Option Addr) (n c:Nat) (l:List Du) (id:Int) (w:World) (hv:Dl w w.heap.size (.slice A n c) l) :
  Calls Tryz.prog 206 #[.slice A n c,.int .i64 id] w fun e w'=>e=.returned (.int .i64 (ixD l id))/\Below w.heap.size w w':=by
 have HC:=Lh (dixfunc_any A n c l id w.heap.size (w.alloc (.cells #[.int .i64 id] 3)) ((hv.alloc (nLR _) _).more (by simp)) (by simp) (by simp [go_sem]))
 have HB:=Lh ((Below.refl w.heap.size w).alloc (nLR _) (.cells #[.int .i64 id] 3))
 have hmf:∀ (fn:Fn) (first cap:Array Value) (w:World),(Instr.makeFunc fn first cap).run Tryz.prog w=.ok (.func fn first cap) w:=fun _ _ _ _=>rfl
 clear hv
 generalize ixD l id=r at*
 go_enter Tryz.func206,Tryz.ntmps206
 go_wp2_with fail
 refine HC.out.mono ?_
 rintro e w1 ⟨rfl,hb1⟩
 have HB1:=Lh (HB.out.trans (hb1.mono HB.out.size))
 clear hb1
 go_wp2
 go_ret
 exact ⟨rfl,HB1.out⟩
def OxP (l:List Du) (w:World) (e:Ending) (w' : World):Prop:=∃ r:Int,e=.returned (.int .i64 r)/\decide (0<=r)=(!snD l)/\Below w.heap.size w w'
theorem oxfunc_any (A:Option Addr) (n c:Nat) (l:List Du) (w:World) (hv:Dl w w.heap.size (.slice A n c) l) :
  Calls Tryz.prog 204 #[.slice A n c,.func (.func 192) #[] #[]] w (OxP l w):=by
 obtain ⟨rfl,hm1,hm2⟩:=hv.len
 have hL:l.length<=9223372036854775807:=by unfold maxLen at hm2;omega
 have HV:=Lh hv
 have HB:=Lh (Below.refl w.heap.size w)
 clear hv hm1 hm2
 go_enter Tryz.func204,Tryz.ntmps204
 go_wp2
 go_loopw [8] (fun i wr=>∃ k:Nat,k<=l.length/\i=.int .i64 k/\Below w.heap.size w wr/\∀ j,j<k->snd (ge l j)=true) (fun i _=>l.length - (intOf i).toNat)
 case atStart=>exact ⟨0,by omega,rfl,HB.out,fun j h=>absurd h (by omega)⟩
 case round=>
  obtain ⟨k,hk,rfl,hb,hno⟩:=hrel
  have HN:=Lh hno
  have HVK:=Lh (HV.out.below hb)
  have HB:=Lh hb
  clear hno hb
  by_cases hlt:k<l.length
  ·obtain ⟨b,o,rfl,hb,c0,c1⟩:=HVK.out.atg hlt
   have HF:=Lh (fun w1=>isout_any (ge l k) w1)
   cases he:snd (ge l k) with
   | false=>
    have HR:=Lh (snD_no hlt he)
    rw [he] at HF
    clear he
    generalize ge l k=M at*
    go_wp2_with fail
    refine (HF.out _).mono ?_
    rintro e w1 ⟨rfl,hb1⟩
    have HB1:=Lh (HB.out.trans (hb1.mono HB.out.size))
    clear hb1
    go_wp2
    go_ret
    exact ⟨k,rfl,by rw [HR.out];simp,HB1.out⟩
   | true=>
    have HNN:=Lh (show ∀ j,j<k+1->snd (ge l j)=true from fun j h=>by
     by_cases e:j=k
     ·rw [e];exact he
     ·exact HN.out j (by omega))
    rw [he] at HF
    clear he
    generalize ge l k=M at*
    go_wp2_with fail
    refine (HF.out _).mono ?_
    rintro e w1 ⟨rfl,hb1⟩
    have HB1:=Lh (HB.out.trans (hb1.mono HB.out.size))
    clear hb1
    go_wp2
    go_roundw
    case rel=>exact ⟨k+1,by omega,by go_num,HB1.out,HNN.out⟩
    case measure=>simp [intOf];omega
  ·have HR:=Lh ((snD_iff l).2 (fun j hj=>HN.out j (by omega)))
   go_wp2
   go_ret
   exact ⟨-1,rfl,by rw [HR.out];rfl,HB.out⟩
theorem dcontains_any (A:Option Addr) (n c:Nat) (l:List Du) (w:World) (hv:Dl w w.heap.size (.slice A n c) l) :
  Calls Tryz.prog 191 #[.slice A n c,.func (.func 192) #[] #[]] w fun e w'=>e=.returned (.bool (!snD l))/\Below w.heap.size w w':=by
 have HC:=Lh (oxfunc_any A n c l w hv)
 clear hv
 go_enter Tryz.func191,Tryz.ntmps191
 go_wp2_with fail
 refine HC.out.mono ?_
 rintro e w1 ⟨r,rfl,hr,hb1⟩
 have HR:=Lh hr
 have HB1:=Lh hb1
 clear hr hb1
 go_wp2
 go_ret
 exact ⟨by rw [<-HR.out];simp,HB1.out⟩
section
variable {w:World} {B:Nat} {A:Option Addr} {n c:Nat} {l:List Du}
theorem dl_under:Tryz.prog.underlying 68=some (.slice (Tryz.prog.elem 68)):=by kernel_rfl
theorem dl_elem:Tryz.prog.elem 68=155:=by kernel_rfl
theorem Dl.upto (h:Dl w B (.slice A n c) l) (j:Nat) (hj:j<=n):Dl w B (.slice A j c) (l.take j):=by
 obtain ⟨hn,hl,hm⟩:=h.len
 have hlen:(l.take j).length=j:=by simp;omega
 refine ⟨A,c,by rw [hlen],by rw [hlen];omega,hm,by rw [dcs_len],fun h0=>?_⟩
 rw [hlen] at h0
 obtain ⟨b,o,rfl,hb,hc⟩:=h.rd.2 (by omega)
 refine ⟨b,o,rfl,hb,fun k u hu=>hc k u ?_⟩
 rw [<-dcs_take] at hu
 have hk:k<j*2:=by
  have:=(List.getElem?_eq_some_iff.1 hu).1
  simp at this;omega
 rw [<-hu,List.getElem?_take_of_lt hk]
theorem run_dupto (A:Option Addr) (n c:Nat) (kh:IntKind) (j:Nat) (hj:j<=c):∀ W,(Instr.slice 68 (.slice A n c) none (some (.int kh (j:Int))) none).run Tryz.prog W=.ok (.slice A j c) W:=fun W=>by
 rw [run_slice_h W _ _ _ _ dl_under kh _ (by omega) (by omega),dl_elem,Tryz.sizeOf155]
 cases A <;> simp [Result.andThen,sliced,Addr.add]
end
theorem dupD_take {l:List Du} {k:Nat} (hk:k<l.length) (h:0<=ixD (l.take k) (ge l k).id):dupD l:=by
 rcases ixD_cases (l.take k) (ge l k).id with ⟨e,_⟩ | ⟨j,hj,e,hi,_⟩
 ·rw [e] at h;exact absurd h (by decide)
 ·have hj' : j<k:=by simp at hj;omega
  rw [ge_take hj'] at hi
  exact ⟨j,k,hj',hk,hi⟩
theorem dupD_not_take {l:List Du} {k:Nat} (hk:k<l.length) (h:¬0<=ixD (l.take k) (ge l k).id):∀ i,i<k->(ge l i).id≠(ge l k).id:=by
 intro i hik e
 have hl:(l.take k).length=k:=by simp;omega
 refine h ((ixD_ge _ _).2 ⟨ge (l.take k) i,mem_ge (by rw [hl];exact hik),by rw [ge_take hik];exact e⟩)
theorem dsame_any (A:Option Addr) (n c:Nat) (l:List Du) (w:World) (hv:Dl w w.heap.size (.slice A n c) l) :
  Calls Tryz.prog 193 #[.slice A n c] w fun e w'=>e=.returned (.bool (dpD l))/\Below w.heap.size w w':=by
 obtain ⟨rfl,hm1,hm2⟩:=hv.len
 have hL:l.length<=9223372036854775807:=by unfold maxLen at hm2;omega
 have HC:=Lh hm1
 have HV:=Lh hv
 have HB:=Lh (Below.refl w.heap.size w)
 clear hv hm1 hm2
 go_enter Tryz.func193,Tryz.ntmps193
 go_wp2
 go_loopw [7] (fun i wr=>∃ k:Nat,k<=l.length/\i=.int .i64 k/\Below w.heap.size w wr/\∀ i j,i<j->j<k->(ge l i).id≠(ge l j).id) (fun i _=>l.length - (intOf i).toNat)
 case atStart=>exact ⟨0,by omega,rfl,HB.out,fun i j _ h=>absurd h (by omega)⟩
 case round=>
  obtain ⟨k,hk,rfl,hb,hno⟩:=hrel
  have HN:=Lh hno
  have HVK:=Lh (HV.out.below hb)
  have HB:=Lh hb
  clear hno hb
  by_cases hlt:k<l.length
  ·have HD:=Lh (fun h=>dupD_take hlt h)
   have HT:=Lh (fun h=>dupD_not_take hlt h)
   have hcut:=run_dupto A l.length c .i64 k (by have:=HC.out;omega)
   have HVA:=Lh ((((HVK.out.alloc HB.out.size (.cells #[.int .i64 (ge l k).dl,.int .i64 (ge l k).id] 155)).upto k hk).drew).more (show w.heap.size<=(wr.alloc (.cells #[.int .i64 (ge l k).dl,.int .i64 (ge l k).id] 155)).drew.heap.size by have:=HB.out.size;simp;omega))
   have HBA:=Lh (HB.out.alloc HB.out.size (.cells #[.int .i64 (ge l k).dl,.int .i64 (ge l k).id] 155))
   obtain ⟨b,o,rfl,hb,c0,c1⟩:=HVK.out.atg hlt
   by_cases he:0<=ixD (l.take k) (ge l k).id
   ·have HY:=Lh (dpD_yes (HD.out he))
    generalize hX:ge l k=X at*
    have HX:=Lh hX
    have HFD:=Lh (fun w1 (h:Dl w1 w1.heap.size (.slice (some ⟨b,o,none⟩) k c) (l.take k))=>dfind_any _ _ _ _ X.id w1 h)
    generalize ixD (l.take k) X.id=r at*
    clear hX
    go_wp2
    go_region_with ((go_at_call 206;refine (HFD.out _ HVA.out).mono ?_;rintro e w1 ⟨rfl,hb1⟩;have HB1:=Lh (HBA.out.trans ((drew_bel hb1).mono HBA.out.size));clear hb1))
    all_goals
     go_wp2
     go_ret
     exact ⟨by rw [HY.out];rfl,HB1.out⟩
   ·have HNN:=Lh (HT.out he)
    have hge:=Lh (ixD_neg he)
    generalize hX:ge l k=X at*
    have HX:=Lh hX
    have HFD:=Lh (fun w1 (h:Dl w1 w1.heap.size (.slice (some ⟨b,o,none⟩) k c) (l.take k))=>dfind_any _ _ _ _ X.id w1 h)
    generalize ixD (l.take k) X.id=r at*
    have hr:r = -1:=hge.out
    subst hr
    clear hX he hge
    go_wp2
    go_region_with ((go_at_call 206;refine (HFD.out _ HVA.out).mono ?_;rintro e w1 ⟨rfl,hb1⟩;have HB1:=Lh (HBA.out.trans ((drew_bel hb1).mono HBA.out.size));clear hb1))
    all_goals
     go_wp2
     go_roundw
     case rel=>
      refine ⟨k+1,by omega,by go_num,HB1.out,fun i j hij hjk=>?_⟩
      by_cases e:j=k
      ·subst e
       rw [HX.out]
       exact HNN.out i hij
      ·exact HN.out i j hij (by omega)
     case measure=>simp [intOf];omega
  ·have HY:=Lh (dpD_no (h:=l) (by rintro ⟨i,j,hij,hj,e⟩;exact HN.out i j hij (by omega) e))
   go_wp2
   go_ret
   exact ⟨by rw [HY.out];rfl,HB.out⟩
theorem dordered_any (A:Option Addr) (n c:Nat) (l:List Du) (w:World) (hv:Dl w w.heap.size (.slice A n c) l) (h100:n<=100) :
  Calls Tryz.prog 194 #[.slice A n c] w fun e w'=>e=.returned (.bool (hpD l))/\Below w.heap.size w w':=by
 obtain ⟨rfl,hm1,hm2⟩:=hv.len
 have hL:l.length<=9223372036854775807:=by omega
 have HV:=Lh hv
 have HB:=Lh (Below.refl w.heap.size w)
 clear hv hm1 hm2
 go_enter Tryz.func194,Tryz.ntmps194
 go_wp2
 go_loopw [7] (fun i wr=>∃ k:Nat,k<=l.length/\i=.int .i64 k/\Below w.heap.size w wr/\∀ j,j<k->bef (ge l j) (ge l ((j - 1) / 2))=false) (fun i _=>l.length - (intOf i).toNat)
 case atStart=>exact ⟨0,by omega,rfl,HB.out,fun j h=>absurd h (by omega)⟩
 case round=>
  obtain ⟨k,hk,rfl,hb,hno⟩:=hrel
  have HN:=Lh hno
  have HVK:=Lh (HV.out.below hb)
  have HB:=Lh hb
  clear hno hb
  by_cases hlt:k<l.length
  ·obtain ⟨p,hp⟩:∃ p,p=(k - 1) / 2:=⟨_,rfl⟩
   have hpl:p<l.length:=by omega
   have HPA:=Lh (fun w=>parent_any k (by omega) w)
   rw [<-hp] at HPA
   have HPP:=Lh hp
   clear hp
   have HF:=Lh (fun w1=>before_any (ge l k) (ge l p) w1)
   obtain ⟨b,o,rfl,hb,c0,c1⟩:=HVK.out.atg hlt
   obtain ⟨b',o',e',hb',d0,d1⟩:=HVK.out.atg hpl
   injection e' with e'
   injection e' with e1 e2
   subst e1;subst e2
   clear hb'
   obtain ⟨X,hX⟩:∃ X,ge l k=X:=⟨_,rfl⟩
   obtain ⟨Y,hY⟩:∃ Y,ge l p=Y:=⟨_,rfl⟩
   have HX:=Lh hX
   have HY:=Lh hY
   rw [hX,hY] at HF
   rw [hX] at c0 c1
   rw [hY] at d0 d1
   clear hX hY
   have hbw:b<wr.heap.size:=Nat.lt_of_lt_of_le hb HB.out.size
   have HBA:=Lh ((HB.out.alloc HB.out.size (.cells #[.int .i64 X.dl,.int .i64 X.id] 155)).drew)
   have hpl' : (p:Int)<(l.length:Int):=by omega
   cases hbf:bef X Y with
   | true=>
    have HR:=Lh (show hpD l=false from hpD_no (fun hh=>by
     have:=hh k (by
      rcases Nat.eq_zero_or_pos k with e | e
      ·have e2:p=k:=by rw [HPP.out,e]
       rw [<-HX.out,<-HY.out,e2,bef_irr] at hbf;cases hbf
      ·exact e) hlt
     rw [<-HPP.out,HX.out,HY.out,hbf] at this
     cases this))
    rw [hbf] at HF
    clear hbf
    go_wp2
    go_region_with (first | (go_at_call 208;refine (HPA.out _).mono ?_;rintro e w1 ⟨rfl,rfl⟩) | (go_at_call 207;refine (HF.out _).mono ?_;rintro e w1 ⟨rfl,hb1⟩;have HB1:=Lh (HBA.out.trans (hb1.mono HBA.out.size));clear hb1))
    all_goals
     go_wp2
     go_ret
     exact ⟨by rw [HR.out];rfl,HB1.out⟩
   | false=>
    have HNN:=Lh (show ∀ j,j<k+1->bef (ge l j) (ge l ((j - 1) / 2))=false from fun j h=>by
     by_cases e:j=k
     ·rw [e,<-HPP.out,HX.out,HY.out];exact hbf
     ·exact HN.out j (by omega))
    rw [hbf] at HF
    clear hbf
    go_wp2
    go_region_with (first | (go_at_call 208;refine (HPA.out _).mono ?_;rintro e w1 ⟨rfl,rfl⟩) | (go_at_call 207;refine (HF.out _).mono ?_;rintro e w1 ⟨rfl,hb1⟩;have HB1:=Lh (HBA.out.trans (hb1.mono HBA.out.size));clear hb1))
    all_goals
     go_wp2
     go_roundw
     case rel=>exact ⟨k+1,by omega,by go_num,HB1.out,HNN.out⟩
     case measure=>simp [intOf];omega
  ·have HY:=Lh (hpD_yes (h:=l) (fun j _ hj=>HN.out j (by omega)))
   go_wp2
   go_ret
   exact ⟨by rw [HY.out];rfl,HB.out⟩
theorem El.some_ {w:World} {B n c:Nat} {A:Option Addr} {l:List Le} (h:El w B (.slice A n c) l) (h0:0<l.length):∃ b o,A=some ⟨b,o,none⟩/\b<B:=by
 obtain ⟨b,o,e,hb,_⟩:=h.at_ h0
 exact ⟨b,o,e,hb⟩
theorem El.c8 {w:World} {B n c b o:Nat} {l:List Le} (h:El w B (.slice (some ⟨b,o,none⟩) n c) l) {k:Nat} (hk:k<l.length):C8 w b (o+k*8) l[k]/\b<B:=by
 obtain ⟨b',o',e,hb,h⟩:=h.at_ hk
 injection e with e
 injection e with e1 e2
 subst e1 e2
 exact ⟨h,hb⟩
theorem El.up {w w' : World} {v:Value} {l:List Le} (h:El w w.heap.size v l) (hb:Below w.heap.size w w'):El w' w'.heap.size v l:=(h.below hb).more hb.size
structure VaA (w:World) (p:Nat) (A:Option Addr) (c:Nat) (l:List Le) (A2:Option Addr) (c2:Nat) (h:List Du) (W:World):Prop where
 tb:TB W p A l.length c A2 h.length c2
 el:El W W.heap.size (.slice A l.length c) l
 dl:Dl W W.heap.size (.slice A2 h.length c2) h
 bel:Below w.heap.size w W
section
variable {w W W' : World} {p c c2:Nat} {A A2:Option Addr} {l:List Le} {h:List Du}
theorem VaA.below (k:VaA w p A c l A2 c2 h W) (hb:Below W.heap.size W W'):VaA w p A c l A2 c2 h W':=
 ⟨k.tb.below hb k.tb.2.2,k.el.up hb,k.dl.up hb,k.bel.trans (hb.mono k.bel.size)⟩
theorem VaA.start (t:TypeId) (hv:El w w.heap.size (.slice A l.length c) l) (hd:Dl w w.heap.size (.slice A2 h.length c2) h):VaA w w.heap.size A c l A2 c2 h (w.alloc (.cells #[.slice A l.length c,.slice A2 h.length c2] t)):=by
 have hb:=(Below.refl w.heap.size w).alloc (nLR _) (.cells #[.slice A l.length c,.slice A2 h.length c2] t)
 exact ⟨TB.start w A l.length c A2 h.length c2 t,hv.up hb,hd.up hb,hb⟩
end
theorem tbV_2 {l:List Le} {h:List Du} (h1:12<l.length):tbV l h=2:=if_pos h1
theorem tbV_va {l:List Le} {h:List Du} (h1:¬12<l.length) (h2:leS l 0=0) (h3:vaF h≠0):tbV l h=vaF h:=by
 unfold tbV
 rw [if_neg h1,if_neg (by simpa using h2),if_pos h3]
theorem tbV_7 {l:List Le} {h:List Du} (h1:¬12<l.length) (h2:leS l 0=0) (h3:vaF h=0) (h4:ofT (l.map Le.du) h=false):tbV l h=7:=by
 unfold tbV
 rw [if_neg h1,if_neg (by simpa using h2),if_neg (by simpa using h3),if_pos h4]
theorem tbV_0 {l:List Le} {h:List Du} (h1:¬12<l.length) (h2:leS l 0=0) (h3:vaF h=0) (h4:ofT (l.map Le.du) h=true):tbV l h=0:=by
 unfold tbV
 rw [if_neg h1,if_neg (by simpa using h2),if_neg (by simpa using h3),if_neg (by simp [h4])]
abbrev XB (W:World) (q:Nat) (X:Le):Prop:=W.cell? ⟨q,0,none⟩=some (.int .i64 X.m.id)/\W.cell? ⟨q,4,none⟩=some (.int .i64 X.m.gn)/\W.cell? ⟨q,7,none⟩=some (.int .i64 X.dl)/\q<W.heap.size
theorem XB.start (w:World) (X:Le) (t:TypeId):XB (w.alloc (.cells #[.int .i64 X.m.id,.int .i64 X.m.rt,.int .i64 X.m.ep,.int .i64 X.m.ct,.int .i64 X.m.gn,.int .i64 X.m.st,.string X.m.bd,.int .i64 X.dl] t)) w.heap.size X:=
 ⟨by simp [go_sem],by simp [go_sem],by simp [go_sem],by simp⟩
theorem XB.below {B:Nat} {W W' : World} {q:Nat} {X:Le} (h:XB W q X) (hb:Below B W W') (hq:q<B):XB W' q X:=
 ⟨(hb.cell (p:=⟨q,0,none⟩) hq).trans h.1,(hb.cell (p:=⟨q,4,none⟩) hq).trans h.2.1,(hb.cell (p:=⟨q,7,none⟩) hq).trans h.2.2.1,Nat.lt_of_lt_of_le h.2.2.2 hb.size⟩
end Go.Proofs.YtkecnihgjepfeaaGreat
/- Plain: a box of a lease that may be written; Find's answers. -/
namespace Go.Proofs.YtkecnihgjepfeaaGreat
open Go.RowKit
set_option linter.unusedVariables false
set_option linter.unusedSimpArgs false
set_option maxHeartbeats 8000000
set_option maxRecDepth 20000
abbrev RL (W:World) (r:Nat) (X:Le):Prop:=W.cell? ⟨r,0,none⟩=some (.int .i64 X.m.id)/\W.cell? ⟨r,1,none⟩=some (.int .i64 X.m.rt)/\W.cell? ⟨r,2,none⟩=some (.int .i64 X.m.ep)/\W.cell? ⟨r,3,none⟩=some (.int .i64 X.m.ct)/\W.cell? ⟨r,4,none⟩=some (.int .i64 X.m.gn)/\W.cell? ⟨r,5,none⟩=some (.int .i64 X.m.st)/\W.cell? ⟨r,6,none⟩=some (.string X.m.bd)/\W.cell? ⟨r,7,none⟩=some (.int .i64 X.dl)/\W.frozen? ⟨r,0,none⟩=false/\W.frozen? ⟨r,1,none⟩=false/\W.frozen? ⟨r,2,none⟩=false/\W.frozen? ⟨r,3,none⟩=false/\W.frozen? ⟨r,4,none⟩=false/\W.frozen? ⟨r,5,none⟩=false/\W.frozen? ⟨r,6,none⟩=false/\W.frozen? ⟨r,7,none⟩=false/\r<W.heap.size
end Go.Proofs.YtkecnihgjepfeaaGreat
namespace Go.Proofs.YtkecnihgjepfeaaGreat
open Go.RowKit
set_option linter.unusedVariables false
set_option linter.unusedSimpArgs false
set_option maxHeartbeats 8000000
set_option maxRecDepth 20000
theorem dvalid_any (A:Option Addr) (n c:Nat) (l:List Du) (w:World) (hv:Dl w w.heap.size (.slice A n c) l) :
  Calls Tryz.prog 174 #[.slice A n c] w fun e w'=>e=.returned (.int .i64 (vaF l))/\Below w.heap.size w w':=by
 obtain ⟨rfl,hm1,hm2⟩:=hv.len
 have HV:=Lh hv
 have HB:=Lh (Below.refl w.heap.size w)
 have H1:=Lh (fun w1 hv=>dcontains_any A l.length c l w1 hv)
 have H2:=Lh (fun w1 hv=>dsame_any A l.length c l w1 hv)
 have H3:=Lh (fun h w1 hv=>dordered_any A l.length c l w1 hv h)
 clear hv hm1 hm2
 by_cases h12:12<l.length
 ·have HR:=Lh (vaF_2 h12)
  have h12' : (12:Int)<(l.length:Int):=by omega
  go_enter Tryz.func174,Tryz.ntmps174
  go_wp2
  go_ret
  exact ⟨by rw [HR.out];rfl,HB.out⟩
 ·have h12' : ¬(12:Int)<(l.length:Int):=by omega
  have H3:=Lh (H3.out (by omega))
  have HL:=Lh (show l.length<=12 by omega)
  have HC:=Lh (fun a b d=>And.intro (vaF_1 (h:=l) HL.out) (And.intro (fun x=>vaF_10 (h:=l) HL.out x a) (And.intro (fun x y=>vaF_11 (h:=l) HL.out x y b) (fun x y=>vaF_0 (h:=l) HL.out x y d))))
  cases hs:snD l with
  | false=>
   have HR:=Lh (vaF_1 (h:=l) HL.out hs)
   rw [hs] at H1
   go_enter Tryz.func174,Tryz.ntmps174
   go_wp2_with fail
   refine (H1.out _ HV.out).mono ?_
   rintro e w1 ⟨rfl,hb⟩
   have HB1:=Lh hb
   clear hb
   go_wp2
   go_ret
   exact ⟨by rw [HR.out];rfl,HB1.out⟩
  | true=>
   rw [hs] at H1
   cases hd:dpD l with
   | true=>
    have HR:=Lh (vaF_10 (h:=l) HL.out hs hd)
    rw [hd] at H2
    go_enter Tryz.func174,Tryz.ntmps174
    go_wp2_with fail
    refine (H1.out _ HV.out).mono ?_
    rintro e w1 ⟨rfl,hb⟩
    have HB1:=Lh hb
    clear hb
    go_wp2_with fail
    refine (H2.out _ (HV.out.up HB1.out)).mono ?_
    rintro e w2 ⟨rfl,hb⟩
    have HB2:=Lh (HB1.out.trans (hb.mono HB1.out.size))
    clear hb
    go_wp2
    go_ret
    exact ⟨by rw [HR.out];rfl,HB2.out⟩
   | false=>
    rw [hd] at H2
    cases ho:hpD l with
    | false=>
     have HR:=Lh (vaF_11 (h:=l) HL.out hs hd ho)
     rw [ho] at H3
     go_enter Tryz.func174,Tryz.ntmps174
     go_wp2_with fail
     refine (H1.out _ HV.out).mono ?_
     rintro e w1 ⟨rfl,hb⟩
     have HB1:=Lh hb
     clear hb
     go_wp2_with fail
     refine (H2.out _ (HV.out.up HB1.out)).mono ?_
     rintro e w2 ⟨rfl,hb⟩
     have HB2:=Lh (HB1.out.trans (hb.mono HB1.out.size))
     clear hb
     go_wp2_with fail
     refine (H3.out _ (HV.out.up HB2.out)).mono ?_
     rintro e w3 ⟨rfl,hb⟩
     have HB3:=Lh (HB2.out.trans (hb.mono HB2.out.size))
     clear hb
     go_wp2
     go_ret
     exact ⟨by rw [HR.out];rfl,HB3.out⟩
    | true=>
     have HR:=Lh (vaF_0 (h:=l) HL.out hs hd ho)
     rw [ho] at H3
     go_enter Tryz.func174,Tryz.ntmps174
     go_wp2_with fail
     refine (H1.out _ HV.out).mono ?_
     rintro e w1 ⟨rfl,hb⟩
     have HB1:=Lh hb
     clear hb
     go_wp2_with fail
     refine (H2.out _ (HV.out.up HB1.out)).mono ?_
     rintro e w2 ⟨rfl,hb⟩
     have HB2:=Lh (HB1.out.trans (hb.mono HB1.out.size))
     clear hb
     go_wp2_with fail
     refine (H3.out _ (HV.out.up HB2.out)).mono ?_
     rintro e w3 ⟨rfl,hb⟩
     have HB3:=Lh (HB2.out.trans (hb.mono HB2.out.size))
     clear hb
     go_wp2
     go_ret
     exact ⟨by rw [HR.out];rfl,HB3.out⟩
theorem info_due:(Tryz.prog.info? 155).map (fun i=>(i.zero,i.size,i.bytes))=some (some (.agg #[.int .i64 0,.int .i64 0]),2,16):=by kernel_rfl
def DClP (w:World) (l:List Du) (e:Ending) (w' : World):Prop:=∃ v,e=.returned v/\w'.ownsRow w.heap.size 155 2 v l.length (dcs l)/\Below w.heap.size w w'
theorem dclone_end {w w1:World} {l:List Du} {v1:Value} {o:Obj} (hown:w1.ownsRow w.heap.size 155 2 v1 (0+l.length) ([]++dcs l)) (hg:(w.alloc o).grownBy w1 (Value.ownBlock (.slice (some ⟨w.heap.size,0,none⟩) 0 0))):DClP w l (.returned v1) w1:=by
 rw [Nat.zero_add,List.nil_append] at hown
 exact ⟨v1,rfl,hown,(((Below.refl _ _).alloc (nLR _) o)).grown hg (by simp) (fun k hk=>by simp [Value.ownBlock] at hk;omega)⟩
theorem dclone_any (A:Option Addr) (n c:Nat) (l:List Du) (w:World) (hv:Dl w w.heap.size (.slice A n c) l) (h2:n<=1000) :
  Calls Tryz.prog 80 #[.slice A n c] w (DClP w l):=by
 obtain ⟨rfl,hm1,hm2⟩:=hv.len
 obtain ⟨i0,hi0,hz0⟩:=Option.map_eq_some_iff.1 info_due
 simp only [Prod.mk.injEq] at hz0
 have HI:=Lh hi0
 have HZ:=Lh hz0
 have HV:=Lh hv
 have heq:∀ W,(binOp .eql 68 (.slice A l.length c) (.slice none 0 0)).run Tryz.prog W=.ok (.bool A.isNone) W:=fun W=>Lib.run_eql_slice_nil W _ _ _ _ _ _ _ Tryz.underlying68
 have HRD:=Lh hv.rd
 clear hv hi0 hz0
 cases A with
 | none=>
  have hl:l=[]:=by
   cases l with
   | nil=>rfl
   | cons d l=>obtain ⟨b,o,e,_⟩:=HRD.out.2 (by simp);cases e
  subst hl
  have HP:=Lh (show DClP w [] (.returned (.slice none 0 0)) w from ⟨_,rfl,World.ownsRow_nil w _ _ _,Below.refl _ _⟩)
  simp only [List.length_nil,Option.isNone_none] at heq ⊢
  go_enter Tryz.func80,Tryz.ntmps80
  go_wp2
  go_ret
  exact HP.out
 | some a=>
  simp only [Option.isNone_some] at heq
  go_enter Tryz.func80,Tryz.ntmps80
  go_wp2_with (at_builtin;refine wpList_append_rd _ rfl (.tmp 5) (.tmp 6) 68 rfl w.heap.size 155 i0 _ 2 16 Tryz.underlying68 HI.out HZ.out.1 HZ.out.2.1 HZ.out.2.2 rfl (by omega) (.slice (some ⟨w.heap.size,0,none⟩) 0 0) 0 [] rfl (World.ownsRow_made w #[] 0 (nLR _) (Nat.zero_le _) rfl) w.heap.size (some a) l.length c (dcs l) rfl (HV.out.alloc (nLR _) _).rd (dcs_one l) (by unfold maxLen;omega) (by omega) (by simp) ?_;intro v1 w1 hown1 hg1 hat1)
  have HP:=Lh (dclone_end hown1 hg1)
  clear hown1 hg1 hat1
  go_wp2
  go_ret
  exact HP.out
structure RwAt (w:World) (q n:Nat) (h:List Du) (W:World):Prop where
 row:DRow W q n (ge h)
 len:h.length=n
 bel:Below q w W
section
variable {w W W' : World} {q n:Nat} {h:List Du}
end
end Go.Proofs.YtkecnihgjepfeaaGreat
