/- What is proved here: due.find and slices.ContainsFunc with due.isOutOfRange, by contracts; due.hasSameID, due.isOrdered, due.Validate by contracts; shardqueueref05.before, sound, index, Validate by contracts; shardqueueref06.Validate by a contract; Rlb. -/
import Derived.Test.YtncgbldcjfbknaaGreatJ11
namespace Go.Proofs.YtncgbldcjfbknaaGreat
open Go.RowKit
set_option linter.unusedVariables false
theorem drew_bel {W W' : World} (h:Below W.drew.heap.size W.drew W'):Below W.heap.size W W':=((Below.refl W.heap.size W).drew).trans h
section
variable {w:World} {B:Nat} {A:Option Addr} {n c:Nat} {l:List Du}
theorem Dl.atg {k:Nat} (h:Dl w B (.slice A n c) l) (hk:k<l.length):∃ b o,A=some ⟨b,o,none⟩∧b<B∧w.cell? ⟨b,o+k*2,none⟩=some (.int .i64 (ge l k).dl)∧w.cell? ⟨b,o+k*2+1,none⟩=some (.int .i64 (ge l k).id):=by
 obtain ⟨b,o,e,hb,c0,c1⟩:=h.at_ hk
 rw [ge_get hk] at c0 c1
 exact ⟨b,o,e,hb,c0,c1⟩
end
theorem dfind1_any (d:Du) (id:Int) (p:Nat) (w:World) (hp:p<w.heap.size) (hc:w.cell? ⟨p,0,none⟩=some (.int .i64 id)) :
  Calls Tryz.prog 213 #[d.v,.pointer (some ⟨p,0,none⟩)] w fun e w'=>e=.returned (.bool (decide (d.id=id)))∧Below w.heap.size w w':=by
 have HB:=Lh ((Below.refl w.heap.size w).alloc (Nat.le_refl _) (.cells #[.int .i64 d.dl,.int .i64 d.id] 127))
 have HD:=Lh (show (d.id==id)=decide (d.id=id) by rw [Bool.eq_iff_iff];simp)
 go_enter Tryz.func213,Tryz.ntmps213
 go_wp2
 go_ret
 exact ⟨by rw [←HD.out];rfl,HB.out⟩
set_option maxHeartbeats 1000000 in
theorem dixfunc_any (A:Option Addr) (n c:Nat) (l:List Du) (id:Int) (p:Nat) (w:World) (hv:Dl w w.heap.size (.slice A n c) l) (hp:p<w.heap.size) (hc:w.cell? ⟨p,0,none⟩=some (.int .i64 id)) :
  Calls Tryz.prog 210 #[.slice A n c,.func (.func 213) #[] #[.pointer (some ⟨p,0,none⟩)]] w fun e w'=>e=.returned (.int .i64 (ixD l id))∧Below w.heap.size w w':=by
 obtain ⟨rfl,hm1,hm2⟩:=hv.len
 have hL:l.length≤9223372036854775807:=by unfold maxLen at hm2;omega
 have HV:=Lh hv
 have HP:=Lh hp
 have HC:=Lh hc
 have HB:=Lh (Below.refl w.heap.size w)
 clear hv hm1 hm2 hp hc
 go_enter Tryz.func210,Tryz.ntmps210
 go_wp2
 go_loopw [8] (fun i wr=>∃ k:Nat,k≤l.length∧i=.int .i64 k∧Below w.heap.size w wr∧∀ j,j<k→(ge l j).id≠id) (fun i _=>l.length - (intOf i).toNat)
 case atStart=>exact ⟨0,by omega,rfl,HB.out,fun j h=>absurd h (by omega)⟩
 case round=>
  obtain ⟨k,hk,rfl,hb,hno⟩:=hrel
  have HN:=Lh hno
  have HVK:=Lh (HV.out.below hb)
  have HPK:=Lh (Nat.lt_of_lt_of_le HP.out hb.size)
  have HCK:=Lh ((hb.cell (p:=⟨p,0,none⟩) HP.out).trans HC.out)
  have HB:=Lh hb
  clear hno hb
  by_cases hlt:k<l.length
  ·obtain ⟨b,o,rfl,hb,c0,c1⟩:=HVK.out.atg hlt
   have HF:=Lh (fun w1 hp hc=>dfind1_any (ge l k) id p w1 hp hc)
   by_cases he:(ge l k).id=id
   ·have HR:=Lh (ixD_hit hlt he HN.out)
    rw [decide_eq_true he] at HF
    clear he
    generalize ge l k=M at*
    go_wp2_with fail
    refine (HF.out _ HPK.out HCK.out).mono ?_
    rintro e w1 ⟨rfl,hb1⟩
    have HB1:=Lh (HB.out.trans (hb1.mono HB.out.size))
    clear hb1
    go_wp2
    go_ret
    exact ⟨by rw [HR.out];rfl,HB1.out⟩
   ·have HNN:=Lh (show ∀ j,j<k+1→(ge l j).id≠id from fun j h=>by
     by_cases e:j=k
     ·rw [e];exact he
     ·exact HN.out j (by omega))
    rw [decide_eq_false he] at HF
    clear he
    generalize ge l k=M at*
    go_wp2_with fail
    refine (HF.out _ HPK.out HCK.out).mono ?_
    rintro e w1 ⟨rfl,hb1⟩
    have HB1:=Lh (HB.out.trans (hb1.mono HB.out.size))
    clear hb1
    go_wp2
    go_roundw
    case rel=>exact ⟨k+1,by omega,by go_num,HB1.out,HNN.out⟩
    case measure=>simp [intOf];omega
  ·have HR:=Lh (ixD_none (id:=id) (fun j hj=>HN.out j (by omega)))
   go_wp2
   go_ret
   exact ⟨by rw [HR.out];rfl,HB.out⟩
theorem dfind_any (A:Option Addr) (n c:Nat) (l:List Du) (id:Int) (w:World) (hv:Dl w w.heap.size (.slice A n c) l) :
  Calls Tryz.prog 194 #[.slice A n c,.int .i64 id] w fun e w'=>e=.returned (.int .i64 (ixD l id))∧Below w.heap.size w w':=by
 have HC:=Lh (dixfunc_any A n c l id w.heap.size (w.alloc (.cells #[.int .i64 id] 3)) ((hv.alloc (Nat.le_refl _) _).more (by simp)) (by simp) (by simp [go_sem]))
 have HB:=Lh ((Below.refl w.heap.size w).alloc (Nat.le_refl _) (.cells #[.int .i64 id] 3))
 have hmf:∀ (fn:Fn) (first cap:Array Value) (w:World),(Instr.makeFunc fn first cap).run Tryz.prog w=.ok (.func fn first cap) w:=fun _ _ _ _=>rfl
 clear hv
 generalize ixD l id=r at*
 go_enter Tryz.func194,Tryz.ntmps194
 go_wp2_with fail
 refine HC.out.mono ?_
 rintro e w1 ⟨rfl,hb1⟩
 have HB1:=Lh (HB.out.trans (hb1.mono HB.out.size))
 clear hb1
 go_wp2
 go_ret
 exact ⟨rfl,HB1.out⟩
def OxP (l:List Du) (w:World) (e:Ending) (w' : World):Prop:=∃ r:Int,e=.returned (.int .i64 r)∧decide (0≤r)=(!snD l)∧Below w.heap.size w w'
set_option maxHeartbeats 1000000 in
theorem oxfunc_any (A:Option Addr) (n c:Nat) (l:List Du) (w:World) (hv:Dl w w.heap.size (.slice A n c) l) :
  Calls Tryz.prog 210 #[.slice A n c,.func (.func 190) #[] #[]] w (OxP l w):=by
 obtain ⟨rfl,hm1,hm2⟩:=hv.len
 have hL:l.length≤9223372036854775807:=by unfold maxLen at hm2;omega
 have HV:=Lh hv
 have HB:=Lh (Below.refl w.heap.size w)
 clear hv hm1 hm2
 go_enter Tryz.func210,Tryz.ntmps210
 go_wp2
 go_loopw [8] (fun i wr=>∃ k:Nat,k≤l.length∧i=.int .i64 k∧Below w.heap.size w wr∧∀ j,j<k→snd (ge l j)=true) (fun i _=>l.length - (intOf i).toNat)
 case atStart=>exact ⟨0,by omega,rfl,HB.out,fun j h=>absurd h (by omega)⟩
 case round=>
  obtain ⟨k,hk,rfl,hb,hno⟩:=hrel
  have HN:=Lh hno
  have HVK:=Lh (HV.out.below hb)
  have HB:=Lh hb
  clear hno hb
  by_cases hlt:k<l.length
  ·obtain ⟨b,o,rfl,hb,c0,c1⟩:=HVK.out.atg hlt
   have HF:=Lh (fun w1=>isout_any (ge l k) w1)
   cases he:snd (ge l k) with
   | false=>
    have HR:=Lh (snD_no hlt he)
    rw [he] at HF
    clear he
    generalize ge l k=M at*
    go_wp2_with fail
    refine (HF.out _).mono ?_
    rintro e w1 ⟨rfl,hb1⟩
    have HB1:=Lh (HB.out.trans (hb1.mono HB.out.size))
    clear hb1
    go_wp2
    go_ret
    exact ⟨k,rfl,by rw [HR.out];simp,HB1.out⟩
   | true=>
    have HNN:=Lh (show ∀ j,j<k+1→snd (ge l j)=true from fun j h=>by
     by_cases e:j=k
     ·rw [e];exact he
     ·exact HN.out j (by omega))
    rw [he] at HF
    clear he
    generalize ge l k=M at*
    go_wp2_with fail
    refine (HF.out _).mono ?_
    rintro e w1 ⟨rfl,hb1⟩
    have HB1:=Lh (HB.out.trans (hb1.mono HB.out.size))
    clear hb1
    go_wp2
    go_roundw
    case rel=>exact ⟨k+1,by omega,by go_num,HB1.out,HNN.out⟩
    case measure=>simp [intOf];omega
  ·have HR:=Lh ((snD_iff l).2 (fun j hj=>HN.out j (by omega)))
   go_wp2
   go_ret
   exact ⟨-1,rfl,by rw [HR.out];rfl,HB.out⟩
theorem dcontains_any (A:Option Addr) (n c:Nat) (l:List Du) (w:World) (hv:Dl w w.heap.size (.slice A n c) l) :
  Calls Tryz.prog 189 #[.slice A n c,.func (.func 190) #[] #[]] w fun e w'=>e=.returned (.bool (!snD l))∧Below w.heap.size w w':=by
 have HC:=Lh (oxfunc_any A n c l w hv)
 clear hv
 go_enter Tryz.func189,Tryz.ntmps189
 go_wp2_with fail
 refine HC.out.mono ?_
 rintro e w1 ⟨r,rfl,hr,hb1⟩
 have HR:=Lh hr
 have HB1:=Lh hb1
 clear hr hb1
 go_wp2
 go_ret
 exact ⟨by rw [←HR.out];simp,HB1.out⟩
section
variable {w:World} {B:Nat} {A:Option Addr} {n c:Nat} {l:List Du}
theorem dl_under:Tryz.prog.underlying 29=some (.slice (Tryz.prog.elem 29)):=by kernel_rfl
theorem dl_elem:Tryz.prog.elem 29=127:=by kernel_rfl
theorem Dl.upto (h:Dl w B (.slice A n c) l) (j:Nat) (hj:j≤n):Dl w B (.slice A j c) (l.take j):=by
 obtain ⟨hn,hl,hm⟩:=h.len
 have hlen:(l.take j).length=j:=by simp;omega
 refine ⟨A,c,by rw [hlen],by rw [hlen];omega,hm,by rw [dcs_len],fun h0=>?_⟩
 rw [hlen] at h0
 obtain ⟨b,o,rfl,hb,hc⟩:=h.rd.2 (by omega)
 refine ⟨b,o,rfl,hb,fun k u hu=>hc k u ?_⟩
 rw [←dcs_take] at hu
 have hk:k<j*2:=by
  have:=(List.getElem?_eq_some_iff.1 hu).1
  simp at this;omega
 rw [←hu,List.getElem?_take_of_lt hk]
theorem run_dupto (A:Option Addr) (n c:Nat) (kh:IntKind) (j:Nat) (hj:j≤c):∀ W,(Instr.slice 29 (.slice A n c) none (some (.int kh (j:Int))) none).run Tryz.prog W=.ok (.slice A j c) W:=fun W=>by
 rw [run_slice_h W _ _ _ _ dl_under kh _ (by omega) (by omega),dl_elem,Tryz.sizeOf127]
 cases A <;> simp [Result.andThen,sliced,Addr.add]
end
theorem dupD_take {l:List Du} {k:Nat} (hk:k<l.length) (h:0≤ixD (l.take k) (ge l k).id):dupD l:=by
 rcases ixD_cases (l.take k) (ge l k).id with ⟨e,_⟩ | ⟨j,hj,e,hi,_⟩
 ·rw [e] at h;exact absurd h (by decide)
 ·have hj' : j<k:=by simp at hj;omega
  rw [ge_take hj'] at hi
  exact ⟨j,k,hj',hk,hi⟩
theorem dupD_not_take {l:List Du} {k:Nat} (hk:k<l.length) (h:¬0≤ixD (l.take k) (ge l k).id):∀ i,i<k→(ge l i).id≠(ge l k).id:=by
 intro i hik e
 have hl:(l.take k).length=k:=by simp;omega
 refine h ((ixD_ge _ _).2 ⟨ge (l.take k) i,mem_ge (by rw [hl];exact hik),by rw [ge_take hik];exact e⟩)
set_option maxHeartbeats 4000000 in
set_option maxRecDepth 20000 in
theorem dsame_any (A:Option Addr) (n c:Nat) (l:List Du) (w:World) (hv:Dl w w.heap.size (.slice A n c) l) :
  Calls Tryz.prog 191 #[.slice A n c] w fun e w'=>e=.returned (.bool (dpD l))∧Below w.heap.size w w':=by
 obtain ⟨rfl,hm1,hm2⟩:=hv.len
 have hL:l.length≤9223372036854775807:=by unfold maxLen at hm2;omega
 have HC:=Lh hm1
 have HV:=Lh hv
 have HB:=Lh (Below.refl w.heap.size w)
 clear hv hm1 hm2
 go_enter Tryz.func191,Tryz.ntmps191
 go_wp2
 go_loopw [7] (fun i wr=>∃ k:Nat,k≤l.length∧i=.int .i64 k∧Below w.heap.size w wr∧∀ i j,i<j→j<k→(ge l i).id≠(ge l j).id) (fun i _=>l.length - (intOf i).toNat)
 case atStart=>exact ⟨0,by omega,rfl,HB.out,fun i j _ h=>absurd h (by omega)⟩
 case round=>
  obtain ⟨k,hk,rfl,hb,hno⟩:=hrel
  have HN:=Lh hno
  have HVK:=Lh (HV.out.below hb)
  have HB:=Lh hb
  clear hno hb
  by_cases hlt:k<l.length
  ·have HD:=Lh (fun h=>dupD_take hlt h)
   have HT:=Lh (fun h=>dupD_not_take hlt h)
   have hcut:=run_dupto A l.length c .i64 k (by have:=HC.out;omega)
   have HVA:=Lh ((((HVK.out.alloc HB.out.size (.cells #[.int .i64 (ge l k).dl,.int .i64 (ge l k).id] 127)).upto k hk).drew).more (show w.heap.size≤(wr.alloc (.cells #[.int .i64 (ge l k).dl,.int .i64 (ge l k).id] 127)).drew.heap.size by have:=HB.out.size;simp;omega))
   have HBA:=Lh (HB.out.alloc HB.out.size (.cells #[.int .i64 (ge l k).dl,.int .i64 (ge l k).id] 127))
   obtain ⟨b,o,rfl,hb,c0,c1⟩:=HVK.out.atg hlt
   by_cases he:0≤ixD (l.take k) (ge l k).id
   ·have HY:=Lh (dpD_yes (HD.out he))
    generalize hX:ge l k=X at*
    have HX:=Lh hX
    have HFD:=Lh (fun w1 (h:Dl w1 w1.heap.size (.slice (some ⟨b,o,none⟩) k c) (l.take k))=>dfind_any _ _ _ _ X.id w1 h)
    generalize ixD (l.take k) X.id=r at*
    clear hX
    go_wp2
    go_region_with ((go_at_call 194;refine (HFD.out _ HVA.out).mono ?_;rintro e w1 ⟨rfl,hb1⟩;have HB1:=Lh (HBA.out.trans ((drew_bel hb1).mono HBA.out.size));clear hb1))
    all_goals
     go_wp2
     go_ret
     exact ⟨by rw [HY.out];rfl,HB1.out⟩
   ·have HNN:=Lh (HT.out he)
    have hge:=Lh (ixD_neg he)
    generalize hX:ge l k=X at*
    have HX:=Lh hX
    have HFD:=Lh (fun w1 (h:Dl w1 w1.heap.size (.slice (some ⟨b,o,none⟩) k c) (l.take k))=>dfind_any _ _ _ _ X.id w1 h)
    generalize ixD (l.take k) X.id=r at*
    have hr:r = -1:=hge.out
    subst hr
    clear hX he hge
    go_wp2
    go_region_with ((go_at_call 194;refine (HFD.out _ HVA.out).mono ?_;rintro e w1 ⟨rfl,hb1⟩;have HB1:=Lh (HBA.out.trans ((drew_bel hb1).mono HBA.out.size));clear hb1))
    all_goals
     go_wp2
     go_roundw
     case rel=>
      refine ⟨k+1,by omega,by go_num,HB1.out,fun i j hij hjk=>?_⟩
      by_cases e:j=k
      ·subst e
       rw [HX.out]
       exact HNN.out i hij
      ·exact HN.out i j hij (by omega)
     case measure=>simp [intOf];omega
  ·have HY:=Lh (dpD_no (h:=l) (by rintro ⟨i,j,hij,hj,e⟩;exact HN.out i j hij (by omega) e))
   go_wp2
   go_ret
   exact ⟨by rw [HY.out];rfl,HB.out⟩
set_option maxHeartbeats 4000000 in
set_option maxRecDepth 20000 in
theorem dordered_any (A:Option Addr) (n c:Nat) (l:List Du) (w:World) (hv:Dl w w.heap.size (.slice A n c) l) (h100:n≤100) :
  Calls Tryz.prog 192 #[.slice A n c] w fun e w'=>e=.returned (.bool (hpD l))∧Below w.heap.size w w':=by
 obtain ⟨rfl,hm1,hm2⟩:=hv.len
 have hL:l.length≤9223372036854775807:=by omega
 have HV:=Lh hv
 have HB:=Lh (Below.refl w.heap.size w)
 clear hv hm1 hm2
 go_enter Tryz.func192,Tryz.ntmps192
 go_wp2
 go_loopw [7] (fun i wr=>∃ k:Nat,k≤l.length∧i=.int .i64 k∧Below w.heap.size w wr∧∀ j,j<k→bef (ge l j) (ge l ((j - 1) / 2))=false) (fun i _=>l.length - (intOf i).toNat)
 case atStart=>exact ⟨0,by omega,rfl,HB.out,fun j h=>absurd h (by omega)⟩
 case round=>
  obtain ⟨k,hk,rfl,hb,hno⟩:=hrel
  have HN:=Lh hno
  have HVK:=Lh (HV.out.below hb)
  have HB:=Lh hb
  clear hno hb
  by_cases hlt:k<l.length
  ·obtain ⟨p,hp⟩:∃ p,p=(k - 1) / 2:=⟨_,rfl⟩
   have hpl:p<l.length:=by omega
   have HPA:=Lh (fun w=>parent_any k (by omega) w)
   rw [←hp] at HPA
   have HPP:=Lh hp
   clear hp
   have HF:=Lh (fun w1=>before_any (ge l k) (ge l p) w1)
   obtain ⟨b,o,rfl,hb,c0,c1⟩:=HVK.out.atg hlt
   obtain ⟨b',o',e',hb',d0,d1⟩:=HVK.out.atg hpl
   injection e' with e'
   injection e' with e1 e2
   subst e1;subst e2
   clear hb'
   obtain ⟨X,hX⟩:∃ X,ge l k=X:=⟨_,rfl⟩
   obtain ⟨Y,hY⟩:∃ Y,ge l p=Y:=⟨_,rfl⟩
   have HX:=Lh hX
   have HY:=Lh hY
   rw [hX,hY] at HF
   rw [hX] at c0 c1
   rw [hY] at d0 d1
   clear hX hY
   have hbw:b<wr.heap.size:=Nat.lt_of_lt_of_le hb HB.out.size
   have HBA:=Lh ((HB.out.alloc HB.out.size (.cells #[.int .i64 X.dl,.int .i64 X.id] 127)).drew)
   have hpl' : (p:Int)<(l.length:Int):=by omega
   cases hbf:bef X Y with
   | true=>
    have HR:=Lh (show hpD l=false from hpD_no (fun hh=>by
     have:=hh k (by
      rcases Nat.eq_zero_or_pos k with e | e
      ·have e2:p=k:=by rw [HPP.out,e]
       rw [←HX.out,←HY.out,e2,bef_irr] at hbf;cases hbf
      ·exact e) hlt
     rw [←HPP.out,HX.out,HY.out,hbf] at this
     cases this))
    rw [hbf] at HF
    clear hbf
    go_wp2
    go_region_with (first | (go_at_call 195;refine (HPA.out _).mono ?_;rintro e w1 ⟨rfl,rfl⟩) | (go_at_call 196;refine (HF.out _).mono ?_;rintro e w1 ⟨rfl,hb1⟩;have HB1:=Lh (HBA.out.trans (hb1.mono HBA.out.size));clear hb1))
    all_goals
     go_wp2
     go_ret
     exact ⟨by rw [HR.out];rfl,HB1.out⟩
   | false=>
    have HNN:=Lh (show ∀ j,j<k+1→bef (ge l j) (ge l ((j - 1) / 2))=false from fun j h=>by
     by_cases e:j=k
     ·rw [e,←HPP.out,HX.out,HY.out];exact hbf
     ·exact HN.out j (by omega))
    rw [hbf] at HF
    clear hbf
    go_wp2
    go_region_with (first | (go_at_call 195;refine (HPA.out _).mono ?_;rintro e w1 ⟨rfl,rfl⟩) | (go_at_call 196;refine (HF.out _).mono ?_;rintro e w1 ⟨rfl,hb1⟩;have HB1:=Lh (HBA.out.trans (hb1.mono HBA.out.size));clear hb1))
    all_goals
     go_wp2
     go_roundw
     case rel=>exact ⟨k+1,by omega,by go_num,HB1.out,HNN.out⟩
     case measure=>simp [intOf];omega
  ·have HY:=Lh (hpD_yes (h:=l) (fun j _ hj=>HN.out j (by omega)))
   go_wp2
   go_ret
   exact ⟨by rw [HY.out];rfl,HB.out⟩
set_option maxHeartbeats 2000000 in
theorem rbef_any (a b:Du) (w:World) :
  Calls Tryz.prog 168 #[a.v,b.v] w fun e w'=>e=.returned (.bool (bef a b))∧Below w.heap.size w w':=by
 have HB:=Lh (((Below.refl w.heap.size w).alloc (Nat.le_refl _) (.cells #[.int .i64 a.dl,.int .i64 a.id] 127)).alloc (by simp) (.cells #[.int .i64 b.dl,.int .i64 b.id] 127))
 by_cases h1:a.dl<b.dl
 ·have HR:=Lh (show bef a b=true from bef_iff.2 (.inl h1))
  go_enter Tryz.func168,Tryz.ntmps168
  go_wp2
  go_ret
  exact ⟨by rw [HR.out];rfl,HB.out⟩
 ·by_cases h2:a.dl=b.dl
  ·have h2' : (a.dl==b.dl)=true:=by simp [h2]
   by_cases h3:a.id<b.id
   ·have HR:=Lh (show bef a b=true from bef_iff.2 (.inr ⟨h2,h3⟩))
    clear h2
    go_enter Tryz.func168,Tryz.ntmps168
    go_wp2
    go_ret
    exact ⟨by rw [HR.out];rfl,HB.out⟩
   ·have HR:=Lh (show bef a b=false from bef_no.2 (.inr ⟨h2.symm,by omega⟩))
    clear h2
    go_enter Tryz.func168,Tryz.ntmps168
    go_wp2
    go_ret
    exact ⟨by rw [HR.out];rfl,HB.out⟩
  ·have h2' : (a.dl==b.dl)=false:=by simp [h2]
   have HR:=Lh (show bef a b=false from bef_no.2 (.inl (by omega)))
   clear h2
   go_enter Tryz.func168,Tryz.ntmps168
   go_wp2
   go_ret
   exact ⟨by rw [HR.out];rfl,HB.out⟩
set_option maxHeartbeats 2000000 in
theorem rsound_any (d:Du) (w:World) :
  Calls Tryz.prog 166 #[d.v] w fun e w'=>e=.returned (.bool (snd d))∧Below w.heap.size w w':=by
 have HB:=Lh ((Below.refl w.heap.size w).alloc (Nat.le_refl _) (.cells #[.int .i64 d.dl,.int .i64 d.id] 127))
 by_cases h1:0≤d.dl
 ·by_cases h2:d.dl≤1073741824
  ·by_cases h3:1≤d.id
   ·by_cases h4:d.id≤1073741824
    ·have HR:=Lh (show snd d=true from decide_eq_true ⟨h1,h2,h3,h4⟩)
     go_enter Tryz.func166,Tryz.ntmps166
     go_wp2
     go_ret
     exact ⟨by rw [HR.out];rfl,HB.out⟩
    ·have HR:=Lh (show snd d=false from decide_eq_false (fun h=>h4 h.2.2.2))
     go_enter Tryz.func166,Tryz.ntmps166
     go_wp2
     go_ret
     exact ⟨by rw [HR.out];rfl,HB.out⟩
   ·have HR:=Lh (show snd d=false from decide_eq_false (fun h=>h3 h.2.2.1))
    go_enter Tryz.func166,Tryz.ntmps166
    go_wp2
    go_ret
    exact ⟨by rw [HR.out];rfl,HB.out⟩
  ·have HR:=Lh (show snd d=false from decide_eq_false (fun h=>h2 h.2.1))
   go_enter Tryz.func166,Tryz.ntmps166
   go_wp2
   go_ret
   exact ⟨by rw [HR.out];rfl,HB.out⟩
 ·have HR:=Lh (show snd d=false from decide_eq_false (fun h=>h1 h.1))
  go_enter Tryz.func166,Tryz.ntmps166
  go_wp2
  go_ret
  exact ⟨by rw [HR.out];rfl,HB.out⟩
theorem rix5_any (A:Option Addr) (n c:Nat) (l:List Du) (id:Int) (w:World) (B:Nat) (hv:Dl w B (.slice A n c) l) :
  Calls Tryz.prog 167 #[.slice A n c,.int .i64 id] w fun e w'=>e=.returned (.int .i64 (ixD l id))∧w=w':=by
 obtain ⟨rfl,hm1,hm2⟩:=hv.len
 have hL:l.length≤9223372036854775807:=by unfold maxLen at hm2;omega
 have HV:=Lh hv
 clear hv hm1 hm2
 go_enter Tryz.func167,Tryz.ntmps167
 go_wp2
 go_loop [5] (fun i=>∃ k:Nat,k≤l.length∧i=.int .i64 k∧∀ j,j<k→(ge l j).id≠id) (fun i=>l.length - (intOf i).toNat)
 case atStart=>exact ⟨0,by omega,rfl,fun j h=>absurd h (by omega)⟩
 case round=>
  obtain ⟨k,hk,rfl,hno⟩:=hrel
  have HN:=Lh hno
  clear hno
  by_cases hlt:k<l.length
  ·obtain ⟨b,o,rfl,hb,c0,c1⟩:=HV.out.atg hlt
   by_cases he:(ge l k).id=id
   ·have HR:=Lh (ixD_hit hlt he HN.out)
    have hd:((ge l k).id==id)=true:=by simpa using he
    clear he
    generalize ge l k=X at*
    go_wp2
    go_ret
    exact ⟨by rw [HR.out];rfl,rfl⟩
   ·have hd:((ge l k).id==id)=false:=by simpa using he
    have HNN:=Lh (show ∀ j,j<k+1→(ge l j).id≠id from fun j h=>by
     by_cases e:j=k
     ·rw [e];exact he
     ·exact HN.out j (by omega))
    clear he
    generalize ge l k=X at*
    go_wp2
    go_round
    case rel=>exact ⟨k+1,by omega,by go_num,HNN.out⟩
    case measure=>simp [intOf];omega
  ·have HR:=Lh (ixD_none (id:=id) (fun j hj=>HN.out j (by omega)))
   go_wp2
   go_ret
   exact ⟨by rw [HR.out];rfl,rfl⟩
theorem ixD_dup {l:List Du} {k:Nat} (hk:k<l.length) (h:ixD l (ge l k).id≠k):dupD l:=by
 rcases ixD_cases l (ge l k).id with ⟨_,hn⟩ | ⟨j,hj,e,hi,hn⟩
 ·exact absurd rfl (hn k hk)
 ·rw [e] at h
  have hjk:j≠k:=fun e=>h (by rw [e])
  rcases Nat.lt_or_ge j k with hlt | hge
  ·exact ⟨j,k,hlt,hk,hi⟩
  ·exact absurd rfl (hn k (by omega))
theorem dupD_none {l:List Du} (h:∀ k,k<l.length→ixD l (ge l k).id=k):¬dupD l:=by
 rintro ⟨i,j,hij,hj,e⟩
 have h1:=h i (by omega)
 have h2:=h j hj
 rw [e,h2] at h1
 omega
set_option maxHeartbeats 8000000 in
set_option maxRecDepth 20000 in
theorem rvalid5_any (A:Option Addr) (n c:Nat) (l:List Du) (w:World) (hv:Dl w w.heap.size (.slice A n c) l) :
  Calls Tryz.prog 114 #[.slice A n c] w fun e w'=>e=.returned (.int .i64 (vaF l))∧Below w.heap.size w w':=by
 obtain ⟨rfl,hm1,hm2⟩:=hv.len
 have HV:=Lh hv
 have HB:=Lh (Below.refl w.heap.size w)
 clear hv hm1 hm2
 by_cases h12:12<l.length
 ·have HR:=Lh (vaF_2 h12)
  have h12' : (12:Int)<(l.length:Int):=by omega
  go_enter Tryz.func114,Tryz.ntmps114
  go_wp2
  go_ret
  exact ⟨by rw [HR.out];rfl,HB.out⟩
 ·have h12' : ¬(12:Int)<(l.length:Int):=by omega
  have HL:=Lh (show l.length≤12 by omega)
  have hl12:(l.length:Int)≤12:=by omega
  go_enter Tryz.func114,Tryz.ntmps114
  go_wp2
  go_loopw [3] (fun i wr=>∃ k:Nat,k≤l.length∧i=.int .i64 k∧Below w.heap.size w wr∧∀ j,j<k→snd (ge l j)=true) (fun i _=>l.length - (intOf i).toNat)
  case atStart=>exact ⟨0,by omega,rfl,HB.out,fun j h=>absurd h (by omega)⟩
  case round=>
   obtain ⟨k,hk,rfl,hb,hno⟩:=hrel
   have HN:=Lh hno
   have HVK:=Lh (HV.out.below hb)
   have HB:=Lh hb
   clear hno hb
   by_cases hlt:k<l.length
   ·obtain ⟨b,o,rfl,hb,c0,c1⟩:=HVK.out.atg hlt
    have HF:=Lh (fun w1=>rsound_any (ge l k) w1)
    cases he:snd (ge l k) with
    | false=>
     have HR:=Lh (vaF_1 HL.out (snD_no hlt he))
     rw [he] at HF
     clear he
     generalize ge l k=M at*
     go_wp2_with fail
     refine (HF.out _).mono ?_
     rintro e w1 ⟨rfl,hb1⟩
     have HB1:=Lh (HB.out.trans (hb1.mono HB.out.size))
     clear hb1
     go_wp2
     go_ret
     exact ⟨by rw [HR.out];rfl,HB1.out⟩
    | true=>
     have HNN:=Lh (show ∀ j,j<k+1→snd (ge l j)=true from fun j h=>by
      by_cases e:j=k
      ·rw [e];exact he
      ·exact HN.out j (by omega))
     rw [he] at HF
     clear he
     generalize ge l k=M at*
     go_wp2_with fail
     refine (HF.out _).mono ?_
     rintro e w1 ⟨rfl,hb1⟩
     have HB1:=Lh (HB.out.trans (hb1.mono HB.out.size))
     clear hb1
     go_wp2
     go_roundw
     case rel=>exact ⟨k+1,by omega,by go_num,HB1.out,HNN.out⟩
     case measure=>simp [intOf];omega
   ·have HSN:=Lh ((snD_iff l).2 (fun j hj=>HN.out j (by omega)))
    go_wp2
    go_loopw [4] (fun i wr=>∃ k:Nat,k≤l.length∧i=.int .i64 k∧Below w.heap.size w wr∧∀ j,j<k→ixD l (ge l j).id=j) (fun i _=>l.length - (intOf i).toNat)
    case atStart=>exact ⟨0,by omega,rfl,HB.out,fun j h=>absurd h (by omega)⟩
    case round=>
     obtain ⟨k,hk,rfl,hb,hno⟩:=hrel
     have HN:=Lh hno
     have HVK:=Lh (HV.out.below hb)
     have HB:=Lh hb
     clear hno hb
     by_cases hlt:k<l.length
     ·have HIX:=Lh (fun id=>rix5_any _ _ _ l id wr _ HVK.out)
      obtain ⟨b,o,rfl,hb,c0,c1⟩:=HVK.out.atg hlt
      by_cases he:ixD l (ge l k).id=k
      ·have HNN:=Lh (show ∀ j,j<k+1→ixD l (ge l j).id=j from fun j h=>by
        by_cases e:j=k
        ·rw [e];exact he
        ·exact HN.out j (by omega))
       have HI2:=Lh (HIX.out (ge l k).id)
       rw [he] at HI2
       clear he HIX
       generalize ge l k=M at*
       go_wp2_with fail
       refine HI2.out.mono ?_
       rintro e w1 ⟨rfl,rfl⟩
       go_wp2
       go_roundw
       case rel=>exact ⟨k+1,by omega,by go_num,HB.out,HNN.out⟩
       case measure=>simp [intOf];omega
      ·have HR:=Lh (vaF_10 HL.out HSN.out (dpD_yes (ixD_dup hlt he)))
       have HI2:=Lh (HIX.out (ge l k).id)
       have hne:(ixD l (ge l k).id != (k:Int))=true:=bne_iff_ne.2 he
       clear he HIX
       generalize ixD l (ge l k).id=r at*
       generalize ge l k=M at*
       go_wp2_with fail
       refine HI2.out.mono ?_
       rintro e w1 ⟨rfl,rfl⟩
       go_wp2
       go_ret
       exact ⟨by rw [HR.out];rfl,HB.out⟩
     ·have HDP:=Lh (dpD_no (dupD_none (l:=l) (fun j hj=>HN.out j (by omega))))
      go_wp2
      go_loopw [5] (fun i wr=>∃ k:Nat,1≤k∧k≤13∧i=.int .i64 k∧Below w.heap.size w wr∧∀ j,0<j→j<k→bef (ge l j) (ge l ((j - 1) / 2))=false) (fun i _=>l.length - (intOf i).toNat)
      case atStart=>exact ⟨1,Nat.le_refl _,by omega,rfl,HB.out,fun j h h'=>absurd h (by omega)⟩
      case round=>
       obtain ⟨k,hk1,hk,rfl,hb,hno⟩:=hrel
       have HN:=Lh hno
       have HVK:=Lh (HV.out.below hb)
       have HB:=Lh hb
       have hk13:(k:Int)≤13:=by omega
       clear hno hb
       by_cases hlt:k<l.length
       ·obtain ⟨p,hp⟩:∃ p,p=(k - 1) / 2:=⟨_,rfl⟩
        have hpl:p<l.length:=by omega
        have HPP:=Lh hp
        have hw1:IntKind.i64.wrap ((k:Int) - 1)=(k:Int) - 1:=IntWalk.i64_in _ (by omega)
        have hq1:((k:Int) - 1).tdiv 2=(p:Int):=by rw [Int.tdiv_eq_ediv_of_nonneg (by omega)];omega
        have hw2:IntKind.i64.wrap (p:Int)=(p:Int):=IntWalk.i64_in _ (by omega)
        clear hp
        have HF:=Lh (fun w1=>rbef_any (ge l k) (ge l p) w1)
        obtain ⟨b,o,rfl,hb,c0,c1⟩:=HVK.out.atg hlt
        obtain ⟨b',o',e',hb',d0,d1⟩:=HVK.out.atg hpl
        injection e' with e'
        injection e' with e1 e2
        subst e1;subst e2
        clear hb'
        obtain ⟨X,hX⟩:∃ X,ge l k=X:=⟨_,rfl⟩
        obtain ⟨Y,hY⟩:∃ Y,ge l p=Y:=⟨_,rfl⟩
        have HX:=Lh hX
        have HY:=Lh hY
        rw [hX,hY] at HF
        rw [hX] at c0 c1
        rw [hY] at d0 d1
        clear hX hY
        have hbw:b<wr.heap.size:=Nat.lt_of_lt_of_le hb HB.out.size
        have hpl' : (p:Int)<(l.length:Int):=by omega
        have HSA:=Lh (show wr.drew.cell? ⟨b,o+k*2,none⟩=some (.int .i64 X.dl)∧wr.drew.cell? ⟨b,o+k*2+1,none⟩=some (.int .i64 X.id)∧wr.drew.cell? ⟨b,o+p*2,none⟩=some (.int .i64 Y.dl)∧wr.drew.cell? ⟨b,o+p*2+1,none⟩=some (.int .i64 Y.id) from ⟨c0,c1,d0,d1⟩)
        have HSC:=Lh (fun w1 (hb1:Below wr.drew.heap.size wr.drew w1)=>show (w1.cell? ⟨b,o+k*2,none⟩=some (.int .i64 X.dl)∧w1.cell? ⟨b,o+k*2+1,none⟩=some (.int .i64 X.id)∧w1.cell? ⟨b,o+p*2,none⟩=some (.int .i64 Y.dl)∧w1.cell? ⟨b,o+p*2+1,none⟩=some (.int .i64 Y.id))∧Below w.heap.size w w1 from ⟨⟨(hb1.cell (p:=⟨b,o+k*2,none⟩) hbw).trans c0,(hb1.cell (p:=⟨b,o+k*2+1,none⟩) hbw).trans c1,(hb1.cell (p:=⟨b,o+p*2,none⟩) hbw).trans d0,(hb1.cell (p:=⟨b,o+p*2+1,none⟩) hbw).trans d1⟩,HB.out.trans ((drew_bel hb1).mono HB.out.size)⟩)
        cases hbf:bef X Y with
        | true=>
         have HR:=Lh (vaF_11 HL.out HSN.out HDP.out (hpD_no (fun hh=>by
          have:=hh k (by omega) hlt
          rw [←HPP.out,HX.out,HY.out,hbf] at this
          cases this)))
         rw [hbf] at HF
         clear hbf hb hbw
         go_wp2
         go_region_held3 (fun W=>W.cell? ⟨b,o+k*2,none⟩=some (.int .i64 X.dl)∧W.cell? ⟨b,o+k*2+1,none⟩=some (.int .i64 X.id)∧W.cell? ⟨b,o+p*2,none⟩=some (.int .i64 Y.dl)∧W.cell? ⟨b,o+p*2+1,none⟩=some (.int .i64 Y.id))
          (first | with_reducible exact HSA.out | with_reducible exact HSB.out)
          ((go_at_call 168;(with_reducible refine (HF.out _).mono ?_);rintro e w1 ⟨rfl,hb1⟩;obtain ⟨hs,hbb⟩:=HSC.out _ hb1;have HSB:=Lh hs;have HB1:=Lh hbb;clear hb1 hs hbb))
         clear c0 c1 d0 d1 hw1 hq1 hw2
         go_wp2
         go_ret
         exact ⟨by rw [HR.out];rfl,HB1.out⟩
        | false=>
         have HNN:=Lh (show ∀ j,0<j→j<k+1→bef (ge l j) (ge l ((j - 1) / 2))=false from fun j h0 h=>by
          by_cases e:j=k
          ·rw [e,←HPP.out,HX.out,HY.out];exact hbf
          ·exact HN.out j h0 (by omega))
         rw [hbf] at HF
         clear hbf hb hbw
         go_wp2
         go_region_held3 (fun W=>W.cell? ⟨b,o+k*2,none⟩=some (.int .i64 X.dl)∧W.cell? ⟨b,o+k*2+1,none⟩=some (.int .i64 X.id)∧W.cell? ⟨b,o+p*2,none⟩=some (.int .i64 Y.dl)∧W.cell? ⟨b,o+p*2+1,none⟩=some (.int .i64 Y.id))
          (first | with_reducible exact HSA.out | with_reducible exact HSB.out)
          ((go_at_call 168;(with_reducible refine (HF.out _).mono ?_);rintro e w1 ⟨rfl,hb1⟩;obtain ⟨hs,hbb⟩:=HSC.out _ hb1;have HSB:=Lh hs;have HB1:=Lh hbb;clear hb1 hs hbb))
         clear c0 c1 d0 d1 hw1 hq1 hw2
         go_wp2
         go_roundw
         case rel=>exact ⟨k+1,by omega,by have:=HL.out;omega,by go_num,HB1.out,HNN.out⟩
         case measure=>simp [intOf];omega
       ·have HR:=Lh (vaF_0 HL.out HSN.out HDP.out (hpD_yes (h:=l) (fun j h0 hj=>HN.out j h0 (by omega))))
        have hlt' : ¬(k:Int)<(l.length:Int):=by omega
        go_wp2
        go_ret
        exact ⟨by rw [HR.out];rfl,HB.out⟩
theorem El.some_ {w:World} {B n c:Nat} {A:Option Addr} {l:List Le} (h:El w B (.slice A n c) l) (h0:0<l.length):∃ b o,A=some ⟨b,o,none⟩∧b<B:=by
 obtain ⟨b,o,e,hb,_⟩:=h.at_ h0
 exact ⟨b,o,e,hb⟩
theorem El.c8 {w:World} {B n c b o:Nat} {l:List Le} (h:El w B (.slice (some ⟨b,o,none⟩) n c) l) {k:Nat} (hk:k<l.length):C8 w b (o+k*8) l[k]∧b<B:=by
 obtain ⟨b',o',e,hb,h⟩:=h.at_ hk
 injection e with e
 injection e with e1 e2
 subst e1 e2
 exact ⟨h,hb⟩
theorem El.up {w w' : World} {v:Value} {l:List Le} (h:El w w.heap.size v l) (hb:Below w.heap.size w w'):El w' w'.heap.size v l:=(h.below hb).more hb.size
structure VaA (w:World) (p:Nat) (A:Option Addr) (c:Nat) (l:List Le) (A2:Option Addr) (c2:Nat) (h:List Du) (W:World):Prop where
 tb:TB W p A l.length c A2 h.length c2
 el:El W W.heap.size (.slice A l.length c) l
 dl:Dl W W.heap.size (.slice A2 h.length c2) h
 bel:Below w.heap.size w W
section
variable {w W W' : World} {p c c2:Nat} {A A2:Option Addr} {l:List Le} {h:List Du}
theorem VaA.below (k:VaA w p A c l A2 c2 h W) (hb:Below W.heap.size W W'):VaA w p A c l A2 c2 h W':=
 ⟨k.tb.below hb k.tb.2.2,k.el.up hb,k.dl.up hb,k.bel.trans (hb.mono k.bel.size)⟩
theorem VaA.alloc (k:VaA w p A c l A2 c2 h W) (o:Obj):VaA w p A c l A2 c2 h (W.alloc o):=k.below ((Below.refl W.heap.size W).alloc (Nat.le_refl _) o)
theorem VaA.start (t:TypeId) (hv:El w w.heap.size (.slice A l.length c) l) (hd:Dl w w.heap.size (.slice A2 h.length c2) h):VaA w w.heap.size A c l A2 c2 h (w.alloc (.cells #[.slice A l.length c,.slice A2 h.length c2] t)):=by
 have hb:=(Below.refl w.heap.size w).alloc (Nat.le_refl _) (.cells #[.slice A l.length c,.slice A2 h.length c2] t)
 exact ⟨TB.start w A l.length c A2 h.length c2 t,hv.up hb,hd.up hb,hb⟩
end
theorem leS_first {l:List Le} {i:Nat} (hi:i<l.length) (hc:leC l i≠0):∀ d j,j+d=i→(∀ k,j≤k→k<i→leC l k=0)→leS l j=leC l i
 | 0,j,e,_=>by
  obtain rfl:j=i:=by omega
  exact leS_bad hi hc
 | d+1,j,e,h=>by
  rw [leS_good (by omega) (h j (Nat.le_refl _) (by omega))]
  exact leS_first hi hc d (j+1) (by omega) fun k h1 h2=>h k (by omega) h2
theorem tbV_2 {l:List Le} {h:List Du} (h1:12<l.length):tbV l h=2:=if_pos h1
theorem tbV_le {l:List Le} {h:List Du} (h1:¬12<l.length) {i:Nat} (hi:i<l.length) (hc:leC l i≠0) (hn:∀ k,k<i→leC l k=0):tbV l h=leC l i:=by
 have e:=leS_first hi hc i 0 (by omega) fun k _ hk=>hn k hk
 unfold tbV
 rw [if_neg h1,e,if_pos hc]
theorem tbV_va {l:List Le} {h:List Du} (h1:¬12<l.length) (h2:leS l 0=0) (h3:vaF h≠0):tbV l h=vaF h:=by
 unfold tbV
 rw [if_neg h1,if_neg (by simpa using h2),if_pos h3]
theorem tbV_7 {l:List Le} {h:List Du} (h1:¬12<l.length) (h2:leS l 0=0) (h3:vaF h=0) (h4:ofT (l.map Le.du) h=false):tbV l h=7:=by
 unfold tbV
 rw [if_neg h1,if_neg (by simpa using h2),if_neg (by simpa using h3),if_pos h4]
theorem tbV_0 {l:List Le} {h:List Du} (h1:¬12<l.length) (h2:leS l 0=0) (h3:vaF h=0) (h4:ofT (l.map Le.du) h=true):tbV l h=0:=by
 unfold tbV
 rw [if_neg h1,if_neg (by simpa using h2),if_neg (by simpa using h3),if_neg (by simp [h4])]
theorem leC_of {l:List Le} {i:Nat} {X:Le} (hx:lg l i=X):leC l i=if vf X.m≠0 then vf X.m else if X.m.gn=0 then 7 else if X.dl<0∨1073741824<X.dl then 1 else if 0<i∧X.id≤(lg l (i - 1)).id then 11 else 0:=by unfold leC;rw [hx]
abbrev XB (W:World) (q:Nat) (X:Le):Prop:=W.cell? ⟨q,0,none⟩=some (.int .i64 X.m.id)∧W.cell? ⟨q,4,none⟩=some (.int .i64 X.m.gn)∧W.cell? ⟨q,7,none⟩=some (.int .i64 X.dl)∧q<W.heap.size
theorem XB.start (w:World) (X:Le) (t:TypeId):XB (w.alloc (.cells #[.int .i64 X.m.id,.int .i64 X.m.rt,.int .i64 X.m.ep,.int .i64 X.m.ct,.int .i64 X.m.gn,.int .i64 X.m.st,.string X.m.bd,.int .i64 X.dl] t)) w.heap.size X:=
 ⟨by simp [go_sem],by simp [go_sem],by simp [go_sem],by simp⟩
theorem XB.below {B:Nat} {W W' : World} {q:Nat} {X:Le} (h:XB W q X) (hb:Below B W W') (hq:q<B):XB W' q X:=
 ⟨(hb.cell (p:=⟨q,0,none⟩) hq).trans h.1,(hb.cell (p:=⟨q,4,none⟩) hq).trans h.2.1,(hb.cell (p:=⟨q,7,none⟩) hq).trans h.2.2.1,Nat.lt_of_lt_of_le h.2.2.2 hb.size⟩
theorem VaA.drewN {w W:World} {p c c2:Nat} {A A2:Option Addr} {l:List Le} {h:List Du} (k:VaA w p A c l A2 c2 h W) (n:Nat):VaA w p A c l A2 c2 h (W.drewN n):=k.below (below_drewN (Below.refl _ _) n)
set_option maxHeartbeats 8000000 in
set_option maxRecDepth 20000 in
theorem rtvalid_any (A:Option Addr) (n c:Nat) (l:List Le) (A2:Option Addr) (n2 c2:Nat) (h:List Du) (w:World) (hv:El w w.heap.size (.slice A n c) l) (hd:Dl w w.heap.size (.slice A2 n2 c2) h) :
  Calls Tryz.prog 61 #[tv A n c A2 n2 c2] w fun e w'=>e=.returned (.int .i64 (tbV l h))∧Below w.heap.size w w':=by
 obtain ⟨rfl,hm1,hm2⟩:=hv.len
 obtain ⟨rfl,hm3,hm4⟩:=hd.len
 have hL:l.length≤9223372036854775807:=by unfold maxLen at hm2;omega
 have hH:h.length≤9223372036854775807:=by unfold maxLen at hm4;omega
 have H0:=Lh (VaA.start 31 hv hd)
 clear hv hd hm1 hm2 hm3 hm4
 by_cases h12:12<l.length
 ·have HR:=Lh (tbV_2 (h:=h) h12)
  have h12' : (12:Int)<(l.length:Int):=by omega
  have HB:=Lh H0.out.bel
  obtain ⟨t0,t1,tl⟩:=H0.out.tb
  clear h12
  go_enter Tryz.func61,Tryz.ntmps61
  go_wp2
  go_ret
  exact ⟨by rw [HR.out];rfl,HB.out⟩
 ·have h12' : ¬(12:Int)<(l.length:Int):=by omega
  have hl12:(l.length:Int)≤12:=by omega
  have H12:=Lh h12
  clear h12
  go_enter Tryz.func61,Tryz.ntmps61
  obtain ⟨t0,t1,tl⟩:=H0.out.tb
  go_wp2
  obtain ⟨p,hp⟩:∃ p,p=w.heap.size:=⟨_,rfl⟩
  rw [←hp] at H0 ⊢
  clear t0 t1 tl hp
  generalize w.alloc (.cells #[.slice A l.length c,.slice A2 h.length c2] 31)=w1 at*
  go_loopw [3] (fun iv wr=>∃ i:Nat,iv=.int .i64 i∧i≤l.length∧(∀ k,k<i→leC l k=0)∧VaA w p A c l A2 c2 h wr) (fun iv _=>l.length - (intOf iv).toNat)
  case atStart=>exact ⟨0,rfl,Nat.zero_le _,fun k hk=>absurd hk (Nat.not_lt_zero _),H0.out⟩
  case round=>
   obtain ⟨i,rfl,hi,hn,hs⟩:=hrel
   have HN:=Lh hn
   have HS:=Lh hs
   obtain ⟨t0,t1,tl⟩:=hs.tb
   clear hn hs
   by_cases hlt:i<l.length
   ·have hlt' : (i:Int)<(l.length:Int):=by omega
    obtain ⟨b,o,rfl,_⟩:=HS.out.el.some_ (by omega)
    obtain ⟨⟨c0,c1,c2',c3,c4,c5,c6,c7⟩,hb⟩:=HS.out.el.c8 hlt
    obtain ⟨X,hX⟩:∃ X,l[i]=X:=⟨_,rfl⟩
    rw [hX] at c0 c1 c2' c3 c4 c5 c6 c7
    have HX:=Lh (show lg l i=X by rw [←lg_get hlt];exact hX)
    clear hX
    have HQ:=Lh (HS.out.alloc (.cells #[.int .i64 X.m.id,.int .i64 X.m.rt,.int .i64 X.m.ep,.int .i64 X.m.ct,.int .i64 X.m.gn,.int .i64 X.m.st,.string X.m.bd,.int .i64 X.dl] 58))
    have HXB:=Lh (XB.start wr X 58)
    have HM:=Lh (fun W=>rvalidate_any X.m W)
    go_wp2_with fail
    clear c0 c1 c2' c3 c4 c5 c6 c7 t0 t1 tl
    obtain ⟨q,hq⟩:∃ q,q=wr.heap.size:=⟨_,rfl⟩
    rw [←hq] at HXB ⊢
    clear hq hb
    generalize wr.alloc (.cells #[.int .i64 X.m.id,.int .i64 X.m.rt,.int .i64 X.m.ep,.int .i64 X.m.ct,.int .i64 X.m.gn,.int .i64 X.m.st,.string X.m.bd,.int .i64 X.dl] 58)=w2 at*
    by_cases hv:vf X.m=0
    ·rw [hv] at HM
     have HV:=Lh hv
     clear hv
     refine (HM.out _).mono ?_
     rintro e w3 ⟨rfl,hb⟩
     have HS3:=Lh (HQ.out.below hb)
     have HB3:=Lh HS3.out.bel
     obtain ⟨x0,x4,x7,xl⟩:=HXB.out.below hb HXB.out.2.2.2
     obtain ⟨t0,t1,tl⟩:=HS3.out.tb
     obtain ⟨⟨c0,c1,c2',c3,c4,c5,c6,c7⟩,hb'⟩:=HS3.out.el.c8 hlt
     clear hb c0 c1 c2' c3 c4 c5 c6 c7
     by_cases hg:X.m.gn=0
     ·have HR:=Lh (show tbV l h=7 from by
       have e:leC l i=7:=by rw [leC_of HX.out,if_neg (by simpa using HV.out),if_pos hg]
       exact (tbV_le H12.out hlt (by rw [e];decide) HN.out).trans e)
      rw [hg] at x4
      clear hg
      go_wp2
      go_ret
      exact ⟨by rw [HR.out];rfl,HB3.out⟩
     ·have HG:=Lh hg
      have hg' : (X.m.gn==0)=false:=by simpa using hg
      clear hg
      by_cases hd:X.dl<0∨1073741824<X.dl
      ·have HR:=Lh (show tbV l h=1 from by
        have e:leC l i=1:=by rw [leC_of HX.out,if_neg (by simpa using HV.out),if_neg HG.out,if_pos hd]
        exact (tbV_le H12.out hlt (by rw [e];decide) HN.out).trans e)
       by_cases hd1:X.dl<0
       ·clear hd
        go_wp2
        go_ret
        exact ⟨by rw [HR.out];rfl,HB3.out⟩
       ·have hd2:1073741824<X.dl:=by omega
        clear hd
        go_wp2
        go_ret
        exact ⟨by rw [HR.out];rfl,HB3.out⟩
      ·have HD:=Lh hd
       have hd1:¬X.dl<0:=by omega
       have hd2:¬1073741824<X.dl:=by omega
       clear hd
       by_cases hi0:i=0
       ·have e:leC l i=0:=by rw [leC_of HX.out,if_neg (by simpa using HV.out),if_neg HG.out,if_neg HD.out,if_neg (by omega)]
        have HE:=Lh e
        have hgi:decide (0<i)=false:=decide_eq_false (by omega)
        clear e hi0
        go_wp2_with fail
        go_quiet (fail)
        have HS4:=Lh (HS3.out.drewN nq)
        go_wp2
        go_roundw
        case rel=>exact ⟨i+1,by go_num,by omega,fun k hk=>by
         by_cases ek:k=i
         ·subst ek;exact HE.out
         ·exact HN.out k (by omega),HS4.out⟩
        case measure=>simp [intOf];omega
       ·obtain ⟨t,ht⟩:∃ t,t=i - 1:=⟨_,rfl⟩
        have hw:IntKind.i64.wrap ((i:Int) - 1)=(t:Int):=by rw [show (i:Int) - 1=(t:Int) by omega];exact IntWalk.i64_in _ (by omega)
        have htl:t<l.length:=by omega
        have htl' : (t:Int)<(l.length:Int):=by omega
        obtain ⟨⟨d0,-⟩,_⟩:=HS3.out.el.c8 htl
        obtain ⟨Y,hY⟩:∃ Y,l[t]=Y:=⟨_,rfl⟩
        rw [hY] at d0
        have HY:=Lh (show lg l (i - 1)=Y by rw [←ht,←lg_get htl];exact hY)
        have hgi:decide (0<i)=true:=decide_eq_true (by omega)
        have HI:=Lh (show 0<i by omega)
        clear hY ht hi0
        by_cases ho:X.m.id≤Y.m.id
        ·have HR:=Lh (show tbV l h=11 from by
          have e:leC l i=11:=by rw [leC_of HX.out,if_neg (by simpa using HV.out),if_neg HG.out,if_neg HD.out,HY.out,if_pos ⟨HI.out,ho⟩]
          exact (tbV_le H12.out hlt (by rw [e];decide) HN.out).trans e)
         go_wp2_with fail
         go_quiet (fail)
         have HB4:=Lh (HS3.out.drewN nq).bel
         go_wp2
         go_ret
         exact ⟨by rw [HR.out];rfl,HB4.out⟩
        ·have HE:=Lh (show leC l i=0 by rw [leC_of HX.out,if_neg (by simpa using HV.out),if_neg HG.out,if_neg HD.out,HY.out,if_neg (fun hh=>ho hh.2)])
         go_wp2_with fail
         go_quiet (fail)
         have HS4:=Lh (HS3.out.drewN nq)
         go_wp2
         go_roundw
         case rel=>exact ⟨i+1,by go_num,by omega,fun k hk=>by
          by_cases ek:k=i
          ·subst ek;exact HE.out
          ·exact HN.out k (by omega),HS4.out⟩
         case measure=>simp [intOf];omega
    ·have HR:=Lh (show tbV l h=vf X.m from by
      have e:leC l i=vf X.m:=by rw [leC_of HX.out,if_pos hv]
      exact (tbV_le H12.out hlt (by rw [e];exact hv) HN.out).trans e)
     obtain ⟨y,hy⟩:∃ y,y=vf X.m:=⟨_,rfl⟩
     rw [←hy] at HM HR hv
     have hv' : (y != 0)=true:=by simpa using hv
     clear hy hv
     refine (HM.out _).mono ?_
     rintro e w3 ⟨rfl,hb⟩
     have HS3:=Lh (HQ.out.below hb)
     have HB3:=Lh HS3.out.bel
     clear hb
     go_wp2
     go_ret
     exact ⟨by rw [HR.out];rfl,HB3.out⟩
   ·obtain rfl:i=l.length:=by omega
    have HL:=Lh (show leS l 0=0 from (leS_zero _ 0 rfl).2 fun k _ hk=>HN.out k hk)
    clear hlt
    have HM:=Lh (fun W (hd:Dl W W.heap.size (.slice A2 h.length c2) h)=>rvalid5_any A2 h.length c2 h W hd)
    by_cases hv:vaF h=0
    ·rw [hv] at HM
     have HV:=Lh hv
     clear hv
     go_wp2_with fail
     refine (HM.out _ HS.out.dl).mono ?_
     rintro e w3 ⟨rfl,hb⟩
     have HS3:=Lh (HS.out.below hb)
     have HB3:=Lh HS3.out.bel
     clear hb t0 t1 tl
     obtain ⟨t0,t1,tl⟩:=HS3.out.tb
     by_cases hn:h.length=l.length
     ·have hn' : ((h.length:Int) != (l.length:Int))=false:=by simp [hn]
      have HLN:=Lh hn
      clear hn
      go_wp2
      go_loopw [7] (fun iv wr=>∃ i:Nat,iv=.int .i64 i∧i≤h.length∧(∀ k,k<i→ge h k∈l.map Le.du)∧VaA w p A c l A2 c2 h wr) (fun iv _=>h.length - (intOf iv).toNat)
      case atStart=>exact ⟨0,rfl,Nat.zero_le _,fun k hk=>absurd hk (Nat.not_lt_zero _),HS3.out⟩
      case round=>
       obtain ⟨i,rfl,hi,hno,hs⟩:=hrel
       have HN2:=Lh hno
       have HT:=Lh hs
       clear hno hs t0 t1 tl
       obtain ⟨t0,t1,tl⟩:=HT.out.tb
       by_cases hlt:i<h.length
       ·have hlt' : (i:Int)<(h.length:Int):=by omega
        obtain ⟨b,o,rfl,hbl,d0,d1⟩:=HT.out.dl.atg hlt
        obtain ⟨d,hd⟩:∃ d,d=ge h i:=⟨_,rfl⟩
        rw [←hd] at d0 d1
        have HD:=Lh hd
        have HF:=Lh (fun W (hv:El W W.heap.size (.slice A l.length c) l)=>rtfind_any A l.length c l (some ⟨b,o,none⟩) h.length c2 d.id W hv)
        have HED:=Lh (show El wr.drew wr.drew.heap.size (.slice A l.length c) l from HT.out.el)
        have HSA:=Lh (show wr.drew.cell? ⟨p,0,none⟩=some (.slice A l.length c)∧wr.drew.cell? ⟨p,1,none⟩=some (.slice (some ⟨b,o,none⟩) h.length c2)∧wr.drew.cell? ⟨b,o+i*2+1,none⟩=some (.int .i64 d.id) from ⟨t0,t1,d1⟩)
        have HSC:=Lh (fun w5 (hb1:Below wr.drew.heap.size wr.drew w5)=>show (w5.cell? ⟨p,0,none⟩=some (.slice A l.length c)∧w5.cell? ⟨p,1,none⟩=some (.slice (some ⟨b,o,none⟩) h.length c2)∧w5.cell? ⟨b,o+i*2+1,none⟩=some (.int .i64 d.id))∧VaA w p A c l (some ⟨b,o,none⟩) c2 h w5 from
         ⟨⟨(hb1.cell (p:=⟨p,0,none⟩) tl).trans t0,(hb1.cell (p:=⟨p,1,none⟩) tl).trans t1,(hb1.cell (p:=⟨b,o+i*2+1,none⟩) hbl).trans d1⟩,HT.out.below (drew_bel hb1)⟩)
        obtain ⟨y,hy⟩:∃ y,y=kFi Le.id l d.id:=⟨_,rfl⟩
        rw [←hy] at HF
        have HY:=Lh hy
        clear hd hy d0 hbl tl
        go_wp2_with fail
        go_region_held3 (fun W=>W.cell? ⟨p,0,none⟩=some (.slice A l.length c)∧W.cell? ⟨p,1,none⟩=some (.slice (some ⟨b,o,none⟩) h.length c2)∧W.cell? ⟨b,o+i*2+1,none⟩=some (.int .i64 d.id))
         (first | with_reducible exact HSA.out | with_reducible exact HSB.out)
         ((go_at_call 115;(with_reducible refine (HF.out _ HED.out).mono ?_);rintro e w5 ⟨rfl,hb1⟩;obtain ⟨hs5,hv5⟩:=HSC.out _ hb1;have HSB:=Lh hs5;have HT5:=Lh hv5;clear hb1 hs5 hv5))
        clear t0 t1 d1
        obtain ⟨t0,t1,tl⟩:=HT5.out.tb
        obtain ⟨b',o',e',hbl,d0,d1⟩:=HT5.out.dl.atg hlt
        injection e' with e'
        injection e' with e1 e2
        subst e1 e2
        rw [←HD.out] at d0 d1
        clear d1
        by_cases hy0:y<0
        ·have HR:=Lh (show tbV l h=7 from tbV_7 H12.out HL.out HV.out (by
          cases e:ofT (l.map Le.du) h with
          | false=>rfl
          | true=>
           have hm:=(ofT_iff.1 e).2 _ (mem_ge hlt)
           rw [←HD.out] at hm
           exact absurd hm (not_mem_kFi (show Asc Du.id (l.map Le.du) from List.pairwise_map.2 ((leS_iff l).1 HL.out).2) (by rw [kFi_du,←HY.out];exact hy0))))
         go_wp2_with fail
         go_quiet (fail)
         have HB6:=Lh (HT5.out.drewN nq).bel
         go_wp2
         go_ret
         exact ⟨by rw [HR.out];rfl,HB6.out⟩
        ·rcases kFi_cases Le.id l d.id with ⟨ey,_⟩ | ⟨k,hk,ey,eid,_⟩
         ·exact absurd (HY.out.trans ey) (by omega)
         ·obtain rfl:y=(k:Int):=HY.out.trans ey
          have hk' : (k:Int)<(l.length:Int):=by omega
          obtain ⟨b3,o3,rfl,_⟩:=HT5.out.el.some_ (by omega)
          obtain ⟨⟨-,-,-,-,-,-,-,c7⟩,_⟩:=HT5.out.el.c8 hk
          by_cases hdl:l[k].dl=d.dl
          ·have hm:d∈l.map Le.du:=List.mem_map.2 ⟨l[k],List.getElem_mem hk,du_ext hdl eid⟩
           have HM2:=Lh hm
           have hdl' : (l[k].dl != d.dl)=false:=by simp [hdl]
           obtain ⟨z,hz⟩:∃ z,z=l[k].dl:=⟨_,rfl⟩
           rw [←hz] at c7 hdl'
           clear hm hdl hz eid ey
           go_wp2_with fail
           go_quiet (fail)
           have HT6:=Lh (HT5.out.drewN nq)
           go_wp2
           go_roundw
           case rel=>exact ⟨i+1,by go_num,by omega,fun j hj=>by
            by_cases ej:j=i
            ·subst ej;rw [←HD.out];exact HM2.out
            ·exact HN2.out j (by omega),HT6.out⟩
           case measure=>simp [intOf];omega
          ·have HR:=Lh (show tbV l h=7 from tbV_7 H12.out HL.out HV.out (by
            cases e:ofT (l.map Le.du) h with
            | false=>rfl
            | true=>
             have hm:=(ofT_iff.1 e).2 _ (mem_ge hlt)
             rw [←HD.out] at hm
             obtain ⟨x,hx,ex⟩:=List.mem_map.1 hm
             obtain ⟨j,hj,ej⟩:=List.mem_iff_getElem.1 hx
             have eid2:l[j].id=d.id:=by rw [ej,←ex];rfl
             have:=((leS_iff l).1 HL.out).2.inj hj hk (eid2.trans eid.symm)
             subst this
             exact absurd (by rw [ej,←ex];rfl) hdl))
           have hdl' : (l[k].dl != d.dl)=true:=by simp [hdl]
           obtain ⟨z,hz⟩:∃ z,z=l[k].dl:=⟨_,rfl⟩
           rw [←hz] at c7 hdl'
           clear hdl hz eid ey
           go_wp2_with fail
           go_quiet (fail)
           have HB6:=Lh (HT5.out.drewN nq).bel
           go_wp2
           go_ret
           exact ⟨by rw [HR.out];rfl,HB6.out⟩
       ·obtain rfl:i=h.length:=by omega
        have HR:=Lh (show tbV l h=0 from tbV_0 H12.out HL.out HV.out (ofT_iff.2 ⟨by rw [List.length_map];exact HLN.out,fun d hd=>by
         obtain ⟨j,hj,e⟩:=ge_mem hd
         rw [←e];exact HN2.out j hj⟩))
        have HB6:=Lh HT.out.bel
        go_wp2
        go_ret
        exact ⟨by rw [HR.out];rfl,HB6.out⟩
     ·have HR:=Lh (show tbV l h=7 from tbV_7 H12.out HL.out HV.out (by
       cases e:ofT (l.map Le.du) h with
       | false=>rfl
       | true=>
        have hm:=(ofT_iff.1 e).1
        rw [List.length_map] at hm
        exact absurd hm hn))
      have hn' : ((h.length:Int) != (l.length:Int))=true:=by simp;omega
      go_wp2
      go_ret
      exact ⟨by rw [HR.out];rfl,HB3.out⟩
    ·have HR:=Lh (show tbV l h=vaF h from tbV_va H12.out HL.out hv)
     obtain ⟨y,hy⟩:∃ y,y=vaF h:=⟨_,rfl⟩
     rw [←hy] at HM HR hv
     have hv' : (y != 0)=true:=by simpa using hv
     clear hy hv
     go_wp2_with fail
     refine (HM.out _ HS.out.dl).mono ?_
     rintro e w3 ⟨rfl,hb⟩
     have HB3:=Lh (HS.out.below hb).bel
     clear hb
     go_wp2
     go_ret
     exact ⟨by rw [HR.out];rfl,HB3.out⟩
end Go.Proofs.YtncgbldcjfbknaaGreat
/- Plain: a box of a lease that may be written; Find's answers. -/
namespace Go.Proofs.YtncgbldcjfbknaaGreat
open Go.RowKit
set_option linter.unusedVariables false
abbrev RL (W:World) (r:Nat) (X:Le):Prop:=W.cell? ⟨r,0,none⟩=some (.int .i64 X.m.id)∧W.cell? ⟨r,1,none⟩=some (.int .i64 X.m.rt)∧W.cell? ⟨r,2,none⟩=some (.int .i64 X.m.ep)∧W.cell? ⟨r,3,none⟩=some (.int .i64 X.m.ct)∧W.cell? ⟨r,4,none⟩=some (.int .i64 X.m.gn)∧W.cell? ⟨r,5,none⟩=some (.int .i64 X.m.st)∧W.cell? ⟨r,6,none⟩=some (.string X.m.bd)∧W.cell? ⟨r,7,none⟩=some (.int .i64 X.dl)∧W.frozen? ⟨r,0,none⟩=false∧W.frozen? ⟨r,1,none⟩=false∧W.frozen? ⟨r,2,none⟩=false∧W.frozen? ⟨r,3,none⟩=false∧W.frozen? ⟨r,4,none⟩=false∧W.frozen? ⟨r,5,none⟩=false∧W.frozen? ⟨r,6,none⟩=false∧W.frozen? ⟨r,7,none⟩=false∧r<W.heap.size
theorem RL.below {B:Nat} {W W' : World} {r:Nat} {X:Le} (h:RL W r X) (hb:Below B W W') (hr:r<B):RL W' r X:=
 ⟨(hb.cell (p:=⟨r,0,none⟩) hr).trans h.1,(hb.cell (p:=⟨r,1,none⟩) hr).trans h.2.1,(hb.cell (p:=⟨r,2,none⟩) hr).trans h.2.2.1,(hb.cell (p:=⟨r,3,none⟩) hr).trans h.2.2.2.1,(hb.cell (p:=⟨r,4,none⟩) hr).trans h.2.2.2.2.1,(hb.cell (p:=⟨r,5,none⟩) hr).trans h.2.2.2.2.2.1,(hb.cell (p:=⟨r,6,none⟩) hr).trans h.2.2.2.2.2.2.1,(hb.cell (p:=⟨r,7,none⟩) hr).trans h.2.2.2.2.2.2.2.1,(hb.frozen (p:=⟨r,0,none⟩) hr).trans h.2.2.2.2.2.2.2.2.1,(hb.frozen (p:=⟨r,1,none⟩) hr).trans h.2.2.2.2.2.2.2.2.2.1,(hb.frozen (p:=⟨r,2,none⟩) hr).trans h.2.2.2.2.2.2.2.2.2.2.1,(hb.frozen (p:=⟨r,3,none⟩) hr).trans h.2.2.2.2.2.2.2.2.2.2.2.1,(hb.frozen (p:=⟨r,4,none⟩) hr).trans h.2.2.2.2.2.2.2.2.2.2.2.2.1,(hb.frozen (p:=⟨r,5,none⟩) hr).trans h.2.2.2.2.2.2.2.2.2.2.2.2.2.1,(hb.frozen (p:=⟨r,6,none⟩) hr).trans h.2.2.2.2.2.2.2.2.2.2.2.2.2.2.1,(hb.frozen (p:=⟨r,7,none⟩) hr).trans h.2.2.2.2.2.2.2.2.2.2.2.2.2.2.2.1,Nat.lt_of_lt_of_le h.2.2.2.2.2.2.2.2.2.2.2.2.2.2.2.2 hb.size⟩
theorem RL.lt {W:World} {r:Nat} {X:Le} (h:RL W r X):r<W.heap.size:=h.2.2.2.2.2.2.2.2.2.2.2.2.2.2.2.2
theorem RL.start (w:World) (X:Le) (t:TypeId):RL (w.alloc (.cells #[.int .i64 X.m.id,.int .i64 X.m.rt,.int .i64 X.m.ep,.int .i64 X.m.ct,.int .i64 X.m.gn,.int .i64 X.m.st,.string X.m.bd,.int .i64 X.dl] t)) w.heap.size X:=
 ⟨by simp [go_sem],by simp [go_sem],by simp [go_sem],by simp [go_sem],by simp [go_sem],by simp [go_sem],by simp [go_sem],by simp [go_sem],by simp [go_sem],by simp [go_sem],by simp [go_sem],by simp [go_sem],by simp [go_sem],by simp [go_sem],by simp [go_sem],by simp [go_sem],by simp⟩
theorem fn_no {l:List Le} {h:List Du} {id:Int} (hn:¬(tbV l h=0∧0≤kFi Le.id l id)):fnO l h id=false∧fnX l h id=zL:=by
 have e:fnO l h id=false:=decide_eq_false hn
 exact ⟨e,by unfold fnX;rw [if_neg (by rw [e];decide)]⟩
theorem fn_yes {l:List Le} {h:List Du} {id:Int} {k:Nat} (h0:tbV l h=0) (hk:k<l.length) (e:kFi Le.id l id=k):fnO l h id=true∧fnX l h id=l[k]:=by
 have e1:fnO l h id=true:=decide_eq_true ⟨h0,by omega⟩
 exact ⟨e1,by unfold fnX;rw [if_pos e1,e,Int.toNat_natCast,lg_get hk]⟩
end Go.Proofs.YtncgbldcjfbknaaGreat
