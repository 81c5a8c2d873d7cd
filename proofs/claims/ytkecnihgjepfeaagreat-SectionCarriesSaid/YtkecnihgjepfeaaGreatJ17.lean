/- What is proved here: parts of the proof: Shv Lea Deq Lvt Lva Shw. -/
import Derived.Test.YtkecnihgjepfeaaGreatJ16
namespace Go.Proofs.YtkecnihgjepfeaaGreat
open Go.RowKit
set_option linter.unusedVariables false
set_option linter.unusedSimpArgs false
set_option maxHeartbeats 8000000
set_option maxRecDepth 20000
def IdAt (q:Nat) (id:Int) (W:World):Prop:=q<W.heap.size/\W.cell? ⟨q,0,none⟩=some (.int .i64 id)
theorem IdAt.below {q:Nat} {id:Int} (W W' : World) (h:IdAt q id W) (hb:Below W.heap.size W W'):IdAt q id W':=⟨Nat.lt_of_lt_of_le h.1 hb.size,(hb.cell (p:=⟨q,0,none⟩) h.1).trans h.2⟩
theorem sameid1_any (q:Nat) (id:Int) (M:Msg) (w:World) (h:IdAt q id w) :
  Calls Tryz.prog 198 #[M.v,.pointer (some ⟨q,0,none⟩)] w fun e w'=>e=.returned (.bool (M.id==id))/\Below w.heap.size w w':=by
 have HB:=Lh ((Below.refl w.heap.size w).alloc (nLR _) (.cells M.cs 79))
 obtain ⟨hq,hc⟩:=h
 go_enter Tryz.func198,Tryz.ntmps198
 go_wp2
 go_ret
 exact ⟨rfl,HB.out⟩
theorem dup_any {l:List Msg} {k:Nat} (hk:k<l.length):((l.take k).any (fun N=>N.id==l[k].id)=true->dupP l)/\((l.take k).any (fun N=>N.id==l[k].id)=false->∀ i (hi:i<l.length),i<k->l[i].id≠l[k].id):=by
 constructor
 ·intro h
  obtain ⟨N,hN,e⟩:=List.any_eq_true.1 h
  rw [List.mem_take_iff_getElem] at hN
  obtain ⟨i,hi,rfl⟩:=hN
  exact ⟨i,k,by omega,hk,by omega,by simpa using e⟩
 ·intro h i hi hik e
  rw [List.any_eq_false] at h
  refine h l[i] ?_ (by simpa using e)
  rw [List.mem_take_iff_getElem]
  exact ⟨i,by omega,rfl⟩
theorem ssameid_any (A:Option Addr) (n c:Nat) (l:List Msg) (w:World) (hv:Ls w w.heap.size (.slice A n c) l) :
  Calls Tryz.prog 181 #[.slice A n c] w fun e w'=>e=.returned (.bool (dpB l))/\Below w.heap.size w w':=by
 obtain ⟨rfl,hm1,hm2⟩:=hv.len
 have hL:l.length<=9223372036854775807:=by unfold maxLen at hm2;omega
 have HC:=Lh hm1
 have HV:=Lh hv
 have HB:=Lh (Below.refl w.heap.size w)
 have hmf:∀ (fn:Fn) (first cap:Array Value) (w:World),(Instr.makeFunc fn first cap).run Tryz.prog w=.ok (.func fn first cap) w:=fun _ _ _ _=>rfl
 clear hv hm1 hm2
 go_enter Tryz.func181,Tryz.ntmps181
 go_wp2
 go_loopw [7] (fun i wr=>∃ k:Nat,k<=l.length/\i=.int .i64 k/\Below w.heap.size w wr/\∀ i j (hi:i<l.length) (hj:j<l.length),i<j->j<k->l[i].id≠l[j].id) (fun i _=>l.length - (intOf i).toNat)
 case atStart=>exact ⟨0,by omega,rfl,HB.out,fun i j _ _ _ h=>absurd h (by omega)⟩
 case round=>
  obtain ⟨k,hk,rfl,hb,hno⟩:=hrel
  have HN:=Lh hno
  have HVK:=Lh (HV.out.below hb)
  have HB:=Lh hb
  clear hno hb
  by_cases hlt:k<l.length
  ·have HD:=Lh (dup_any hlt)
   have hcut:=run_lupto A l.length c .i64 k (by have:=HC.out;omega)
   have HVA:=Lh (((HVK.out.alloc HB.out.size (.cells (l[k]).cs 79)).upto k hk).more (show w.heap.size<=(wr.alloc (.cells (l[k]).cs 79)).heap.size by have:=HB.out.size;simp;omega))
   have HBA:=Lh (HB.out.alloc HB.out.size (.cells (l[k]).cs 79))
   have HCF:=Lh (cofuncH A k c (l.take k) (.pointer (some ⟨wr.heap.size,0,none⟩)) (fun N=>N.id==l[k].id) (IdAt wr.heap.size l[k].id) (wr.alloc (.cells (l[k]).cs 79)) HVA.out ⟨by simp,by simp [Msg.cs,go_sem]⟩ IdAt.below (fun M W h=>sameid1_any _ _ M W h))
   obtain ⟨b,o,rfl,hb,c0,c1,c2,c3,c4,c5,c6⟩:=HVK.out.at_ hlt
   cases he:(l.take k).any (fun N=>N.id==l[k].id) with
   | true=>
    have HY:=Lh (dpB_yes (HD.out.1 he))
    rw [he] at HCF
    clear he HD HVA
    generalize l[k]=X at*
    go_wp2_with fail
    refine HCF.out.mono ?_
    rintro e w1 ⟨rfl,hb1⟩
    have HB1:=Lh (HBA.out.trans (hb1.mono HBA.out.size))
    clear hb1
    go_wp2
    go_ret
    exact ⟨by rw [HY.out];rfl,HB1.out⟩
   | false=>
    have HNN:=Lh (HD.out.2 he)
    rw [he] at HCF
    clear he HD HVA
    generalize hX:l[k]=X at*
    have HX:=Lh hX
    clear hX
    go_wp2_with fail
    refine HCF.out.mono ?_
    rintro e w1 ⟨rfl,hb1⟩
    have HB1:=Lh (HBA.out.trans (hb1.mono HBA.out.size))
    clear hb1
    go_wp2
    go_roundw
    case rel=>
     refine ⟨k+1,by omega,by go_num,HB1.out,fun i j hi hj hij hjk=>?_⟩
     by_cases e:j=k
     ·subst e
      rw [HX.out]
      exact HNN.out i hi hij
     ·exact HN.out i j hi hj hij (by omega)
    case measure=>simp [intOf];omega
  ·have HY:=Lh (dpB_no (l:=l) (by rintro ⟨i,j,hi,hj,hij,e⟩;exact HN.out i j hi hj hij (by omega) e))
   go_wp2
   go_ret
   exact ⟨by rw [HY.out];rfl,HB.out⟩
theorem lsF_le (cs:List Msg) (hd sz:Int):(lsF cs hd sz).length<=12:=by
 unfold lsF
 by_cases h:rgV cs hd sz=0
 ·rw [if_pos h,ord_len]
  have:=(nm_of (rgV_zero h).1)
  omega
 ·rw [if_neg h];simp
theorem take_map_succ {l:List Le} {k:Nat} (h:k<l.length) (L:List Msg):L++(l.take (k+1)).map Le.m=(L++(l.take k).map Le.m)++[l[k].m]:=by
 rw [<-List.take_append_getElem h,List.map_append,<-List.append_assoc]
 rfl
theorem msg_row (w:World) (M:Msg) (t:TypeId):∀ j u,M.l[j]? = some u->(w.alloc (.cells #[.int .i64 M.id,.int .i64 M.rt,.int .i64 M.ep,.int .i64 M.ct,.int .i64 M.gn,.int .i64 M.st,.string M.bd] t)).cell? ((⟨w.heap.size,0,none⟩:Addr).add j)=some u:=fun j u hu=>by
 rw [add_mk,Nat.zero_add,World.cell?_alloc_new]
 simpa [Msg.l] using hu
theorem smsgs_any (S:Sh) (D:Sx) (w:World) (hs:SR w w.heap.size S D) (h12:S.l.length<=1000) :
  Calls Tryz.prog 177 #[sv S D] w (LsW S.al w):=by
 obtain ⟨i0,hi0,hz0⟩:=Option.map_eq_some_iff.1 info_msg
 simp only [Prod.mk.injEq] at hz0
 have HI:=Lh hi0
 have HZ:=Lh hz0
 have H0:=Lh (SAt.start 72 hs)
 have HLF:=Lh (lsF_le S.cs S.hd S.sz)
 have HG:=Lh (fun p W (k:SAt w p S D W)=>glist_wn D.A S.cs.length D.c S.cs S.hd S.sz W k.sr.ls)
 have HAL:=Lh (show S.al=lsF S.cs S.hd S.sz++(S.l.take S.l.length).map Le.m by rw [List.take_length];rfl)
 have HE0:=Lh hs.el
 have hL:S.l.length<=9223372036854775807:=by omega
 clear hs hi0 hz0
 generalize hLL:lsF S.cs S.hd S.sz=L at*
 clear hLL
 go_enter Tryz.func177,Tryz.ntmps177
 obtain ⟨t0,t1,t2,t3,t4,t5,t6,t7,tl⟩:=H0.out.s8.facts
 go_wp2_with fail
 clear t0 t1 t2 t3 t4 t5 t6 t7 tl
 obtain ⟨p,hp⟩:∃ p,p=w.heap.size:=⟨_,rfl⟩
 have HPW:=Lh hp
 rw [<-hp]
 rw [<-hp] at H0
 clear hp
 generalize w.alloc (.cells #[.bool S.lv,.int .i64 S.lo,.int .i64 S.hi,.slice D.A S.cs.length D.c,.int .i64 S.hd,.int .i64 S.sz,.slice D.A2 S.l.length D.c2,.slice D.A3 S.h.length D.c3] 72)=w1 at*
 refine (HG.out _ _ H0.out).mono ?_
 rintro e w2 ⟨A1,c1,rfl,hw,hb⟩
 have H1:=Lh (H0.out.below hb)
 have HW1:=Lh (Wn.base hw (show p+1<=w1.heap.size from H0.out.lt))
 clear hb hw
 obtain ⟨t0,t1,t2,t3,t4,t5,t6,t7,tl⟩:=H1.out.s8.facts
 go_wp2
 clear t0 t1 t2 t3 t4 t5 t6 t7 tl
 go_loopw [3,13] (fun lv i wr=>∃ k:Nat,k<=S.l.length/\i=.int .i64 k/\p<wr.heap.size/\Below w.heap.size w wr/\∃ A c,lv=.slice A (L++(S.l.take k).map Le.m).length c/\Wn wr (p+1) wr.heap.size (.slice A (L++(S.l.take k).map Le.m).length c) (L++(S.l.take k).map Le.m)) (fun _ i _=>S.l.length - (intOf i).toNat)
 case atStart=>
  refine ⟨0,Nat.zero_le _,rfl,H1.out.lt,H1.out.bel,A1,c1,?_,?_⟩
  ·simp
  ·simpa using HW1.out
 case round=>
  obtain ⟨k,hk,rfl,hpl,hb,A,c,rfl,hw⟩:=hrel
  have HW:=Lh hw
  have HB:=Lh hb
  have HEK:=Lh (HE0.out.below hb)
  clear hw hb
  by_cases hlt:k<S.l.length
  ·have HS:=Lh (take_map_succ hlt L)
   have hln:(L++(S.l.take k).map Le.m).length<=2000:=by simp;have:=HLF.out;omega
   obtain ⟨b,o,hA2,hbl,hc⟩:=HEK.out.at_ hlt
   generalize (L++(S.l.take k).map Le.m)=K at*
   generalize hX:S.l[k]=X at*
   clear hX
   rw [hA2]
   clear hA2
   obtain ⟨c0,c1,c2,c3,c4,c5,c6,c7⟩:=hc
   have HWA:=Lh ((HW.out.alloc (nLR _) (.cells #[.int .i64 X.m.id,.int .i64 X.m.rt,.int .i64 X.m.ep,.int .i64 X.m.ct,.int .i64 X.m.gn,.int .i64 X.m.st,.string X.m.bd,.int .i64 X.dl] 152)).alloc (by simp) (.cells #[.int .i64 X.m.id,.int .i64 X.m.rt,.int .i64 X.m.ep,.int .i64 X.m.ct,.int .i64 X.m.gn,.int .i64 X.m.st,.string X.m.bd] 79))
   have HBA:=Lh ((HB.out.alloc HB.out.size (.cells #[.int .i64 X.m.id,.int .i64 X.m.rt,.int .i64 X.m.ep,.int .i64 X.m.ct,.int .i64 X.m.gn,.int .i64 X.m.st,.string X.m.bd,.int .i64 X.dl] 152)).alloc (by have:=HB.out.size;simp;omega) (.cells #[.int .i64 X.m.id,.int .i64 X.m.rt,.int .i64 X.m.ep,.int .i64 X.m.ct,.int .i64 X.m.gn,.int .i64 X.m.st,.string X.m.bd] 79))
   go_wp2_with (at_builtin;refine wpList_append_wn _ rfl (.tmp 17) (.tmp 20) 27 rfl 79 i0 _ 64 Tryz.underlying27 HI.out HZ.out.1 HZ.out.2.1 HZ.out.2.2 rfl (p+1) wr.heap.size A c K rfl HWA.out (by simp;omega) (by simp;omega) ⟨wr.heap.size+1,0,none⟩ 1 X.m rfl (fun j u hu=>by have:=msg_row (wr.alloc (.cells #[.int .i64 X.m.id,.int .i64 X.m.rt,.int .i64 X.m.ep,.int .i64 X.m.ct,.int .i64 X.m.gn,.int .i64 X.m.st,.string X.m.bd,.int .i64 X.dl] 152)) X.m 79 j u hu;simpa using this) (by unfold maxLen;omega) (by omega) ?_;intro v3 w3 hwn hgr)
   obtain ⟨row,hgr,hrow⟩:=hgr
   have HB3:=Lh (HBA.out.grown hgr HBA.out.size (fun q e=>by have:=hrow q e;have:=HPW.out;omega))
   have HP3:=Lh (show p<w3.heap.size by have:=hgr.size;simp at this;omega)
   obtain ⟨A3,c3',hv3⟩:=hwn.form
   subst hv3
   have HW3:=Lh hwn
   clear hwn hgr hrow
   go_wp2
   go_roundw
   case rel=>exact ⟨k+1,by omega,by go_num,HP3.out,HB3.out,A3,c3',by rw [HS.out],by rw [HS.out];exact HW3.out⟩
   case measure=>simp [intOf];omega
  ·obtain rfl:k=S.l.length:=by omega
   go_wp2
   go_ret
   exact ⟨A,c,by rw [HAL.out];rfl,by rw [HAL.out];exact Wn.base HW.out (by have:=HPW.out;omega),HB.out⟩
theorem leaseerr_any (X:Le) (w:World):Calls Tryz.prog 190 #[X.v] w fun e w'=>e=.returned (.int .i64 (leE X))/\Below w.heap.size w w':=by
 have HB:=Lh ((Below.refl w.heap.size w).alloc (nLR _) (.cells #[.int .i64 X.m.id,.int .i64 X.m.rt,.int .i64 X.m.ep,.int .i64 X.m.ct,.int .i64 X.m.gn,.int .i64 X.m.st,.string X.m.bd,.int .i64 X.dl] 152))
 have HXB:=Lh (XB.start w X 152)
 have HM:=Lh (fun W=>validate_any X.m W)
 by_cases hv:vf X.m=0
 ·rw [hv] at HM
  have HV:=Lh hv
  clear hv
  go_enter Tryz.func190,Tryz.ntmps190
  go_wp2_with fail
  obtain ⟨q,hq⟩:∃ q,q=w.heap.size:=⟨_,rfl⟩
  rw [<-hq] at HXB ⊢
  clear hq
  generalize w.alloc (.cells #[.int .i64 X.m.id,.int .i64 X.m.rt,.int .i64 X.m.ep,.int .i64 X.m.ct,.int .i64 X.m.gn,.int .i64 X.m.st,.string X.m.bd,.int .i64 X.dl] 152)=w2 at*
  refine (HM.out _).mono ?_
  rintro e w3 ⟨rfl,hb⟩
  have HB3:=Lh (HB.out.trans (hb.mono HB.out.size))
  obtain ⟨x0,x4,x7,xl⟩:=HXB.out.below hb HXB.out.2.2.2
  clear hb
  by_cases hg:X.m.gn=0
  ·have HR:=Lh (leE_7 HV.out hg)
   rw [hg] at x4
   clear hg
   go_wp2
   go_ret
   exact ⟨by rw [HR.out];rfl,HB3.out⟩
  ·have HG:=Lh hg
   have hg' : (X.m.gn==0)=false:=by simpa using hg
   clear hg
   by_cases hd1:X.dl<0
   ·have HR:=Lh (leE_1 HV.out HG.out (Or.inl hd1))
    go_wp2
    go_ret
    exact ⟨by rw [HR.out];rfl,HB3.out⟩
   ·by_cases hd2:1073741824<X.dl
    ·have HR:=Lh (leE_1 HV.out HG.out (Or.inr hd2))
     go_wp2
     go_ret
     exact ⟨by rw [HR.out];rfl,HB3.out⟩
    ·have HR:=Lh (leE_0 HV.out HG.out (fun h=>h.elim hd1 hd2))
     go_wp2
     go_ret
     exact ⟨by rw [HR.out];rfl,HB3.out⟩
 ·have HR:=Lh (leE_vf hv)
  have hv' : (vf X.m != 0)=true:=by simpa using hv
  have hv2:(vf X.m==0)=false:=by simpa using hv
  clear hv
  generalize vf X.m=z at*
  go_enter Tryz.func190,Tryz.ntmps190
  go_wp2_with fail
  refine (HM.out _).mono ?_
  rintro e w3 ⟨rfl,hb⟩
  have HB3:=Lh (HB.out.trans (hb.mono HB.out.size))
  clear hb
  go_wp2
  go_ret
  exact ⟨by rw [HR.out];rfl,HB3.out⟩
abbrev El8 (W:World) (q:Nat) (X:Le):Prop:=W.cell? ⟨q,0,none⟩=some (.int .i64 X.m.id)/\W.cell? ⟨q,1,none⟩=some (.int .i64 X.m.rt)/\W.cell? ⟨q,2,none⟩=some (.int .i64 X.m.ep)/\W.cell? ⟨q,3,none⟩=some (.int .i64 X.m.ct)/\W.cell? ⟨q,4,none⟩=some (.int .i64 X.m.gn)/\W.cell? ⟨q,5,none⟩=some (.int .i64 X.m.st)/\W.cell? ⟨q,6,none⟩=some (.string X.m.bd)/\W.cell? ⟨q,7,none⟩=some (.int .i64 X.dl)/\q<W.heap.size
theorem El8.start (w:World) (X:Le) (t:TypeId):El8 (w.alloc (.cells #[.int .i64 X.m.id,.int .i64 X.m.rt,.int .i64 X.m.ep,.int .i64 X.m.ct,.int .i64 X.m.gn,.int .i64 X.m.st,.string X.m.bd,.int .i64 X.dl] t)) w.heap.size X:=
 ⟨by simp [go_sem],by simp [go_sem],by simp [go_sem],by simp [go_sem],by simp [go_sem],by simp [go_sem],by simp [go_sem],by simp [go_sem],by simp⟩
theorem El8.below {B:Nat} {W W' : World} {q:Nat} {X:Le} (h:El8 W q X) (hb:Below B W W') (hq:q<B):El8 W' q X:=by
 obtain ⟨h0,h1,h2,h3,h4,h5,h6,h7,hl⟩:=h
 exact ⟨(hb.cell (p:=⟨q,0,none⟩) hq).trans h0,(hb.cell (p:=⟨q,1,none⟩) hq).trans h1,(hb.cell (p:=⟨q,2,none⟩) hq).trans h2,(hb.cell (p:=⟨q,3,none⟩) hq).trans h3,(hb.cell (p:=⟨q,4,none⟩) hq).trans h4,(hb.cell (p:=⟨q,5,none⟩) hq).trans h5,(hb.cell (p:=⟨q,6,none⟩) hq).trans h6,(hb.cell (p:=⟨q,7,none⟩) hq).trans h7,Nat.lt_of_lt_of_le hl hb.size⟩
theorem dueof_any (X:Le) (w:World):Calls Tryz.prog 196 #[X.v] w fun e w'=>e=.returned X.du.v/\Below w.heap.size w w':=by
 have HB:=Lh ((Below.refl w.heap.size w).alloc (nLR _) (.cells #[.int .i64 X.m.id,.int .i64 X.m.rt,.int .i64 X.m.ep,.int .i64 X.m.ct,.int .i64 X.m.gn,.int .i64 X.m.st,.string X.m.bd,.int .i64 X.dl] 152))
 have HXB:=Lh (XB.start w X 152)
 go_enter Tryz.func196,Tryz.ntmps196
 go_wp2
 exact bodyPost_ret (v:=X.du.v) (by simp only [results,Tryz.results196];go_simp <;> first | rfl | exact ⟨rfl,rfl⟩) rfl ⟨rfl,by repeat (first | exact HB.out | exact (HB.out.alloc HB.out.size _) | (refine Below.setCell ?_ ?_ _) | simp)⟩
theorem bfI_zero (l:List Le):bfI l 0=0:=if_pos rfl
theorem listerr_any (A:Option Addr) (n c:Nat) (l:List Le) (w:World) (hv:El w w.heap.size (.slice A n c) l) :
  Calls Tryz.prog 173 #[.slice A n c] w fun e w'=>e=.returned (.int .i64 (leS l 0))/\Below w.heap.size w w':=by
 obtain ⟨rfl,hm1,hm2⟩:=hv.len
 have hL:l.length<=9223372036854775807:=by unfold maxLen at hm2;omega
 have HV:=Lh hv
 have HB:=Lh (Below.refl w.heap.size w)
 have H0:=Lh (bfI_zero l)
 clear hv hm1 hm2
 go_enter Tryz.func173,Tryz.ntmps173
 go_wp2
 go_loopw [3,9] (fun b i wr=>∃ k:Nat,k<=l.length/\i=.int .i64 k/\b=.int .i64 (bfI l k)/\Below w.heap.size w wr/\∀ j,j<k->leC l j=0) (fun _ i _=>l.length - (intOf i).toNat)
 case atStart=>exact ⟨0,by omega,rfl,by rw [H0.out],HB.out,fun j h=>absurd h (by omega)⟩
 case round=>
  obtain ⟨k,hk,rfl,rfl,hb,hno⟩:=hrel
  have HN:=Lh hno
  have HVK:=Lh (HV.out.below hb)
  have HB:=Lh hb
  clear hno hb
  by_cases hlt:k<l.length
  ·obtain ⟨b,o,rfl,_⟩:=HVK.out.some_ (by omega)
   obtain ⟨⟨c0,c1,c2,c3,c4,c5,c6,c7⟩,hb⟩:=HVK.out.c8 hlt
   obtain ⟨X,hX⟩:∃ X,l[k]=X:=⟨_,rfl⟩
   rw [hX] at c0 c1 c2 c3 c4 c5 c6 c7
   have HX:=Lh (show lg l k=X by rw [<-lg_get hlt];exact hX)
   clear hX
   have HBA:=Lh (HB.out.alloc HB.out.size (.cells #[.int .i64 X.m.id,.int .i64 X.m.rt,.int .i64 X.m.ep,.int .i64 X.m.ct,.int .i64 X.m.gn,.int .i64 X.m.st,.string X.m.bd,.int .i64 X.dl] 152))
   have HXB:=Lh (El8.start wr X 152)
   have HM:=Lh (fun W=>leaseerr_any X W)
   have HSU:=Lh (bfI_succ l k)
   have HCE:=Lh (leC_err (l:=l) (k:=k))
   have HCO:=Lh (leC_ord (l:=l) (k:=k))
   rw [HX.out] at HSU HCE HCO
   have HLA:=Lh (fun hc=>leS_at hlt hc HN.out)
   obtain ⟨z,hz⟩:∃ z,z=bfI l k:=⟨_,rfl⟩
   rw [<-hz] at HCO ⊢
   clear hz
   go_wp2_with fail
   clear c0 c1 c2 c3 c4 c5 c6 c7
   obtain ⟨q,hq⟩:∃ q,q=wr.heap.size:=⟨_,rfl⟩
   rw [<-hq] at HXB ⊢
   clear hq hb
   generalize wr.alloc (.cells #[.int .i64 X.m.id,.int .i64 X.m.rt,.int .i64 X.m.ep,.int .i64 X.m.ct,.int .i64 X.m.gn,.int .i64 X.m.st,.string X.m.bd,.int .i64 X.dl] 152)=w2 at*
   by_cases he:leE X=0
   ·rw [he] at HM
    have HCO:=Lh (HCO.out he)
    clear he HCE
    refine (HM.out _).mono ?_
    rintro e w3 ⟨rfl,hb⟩
    have HB3:=Lh (HBA.out.trans (hb.mono HBA.out.size))
    obtain ⟨x0,x1,x2,x3,x4,x5,x6,x7,xl⟩:=HXB.out.below hb HXB.out.2.2.2.2.2.2.2.2
    clear hb x1 x2 x3 x4 x5 x6 x7
    by_cases hle:X.m.id<=z
    ·have HR:=Lh (show leS l 0=11 from by
      have e:leC l k=11:=HCO.out.trans (if_pos hle)
      exact (HLA.out (by rw [e];decide)).trans e)
     go_wp2
     go_ret
     exact ⟨by rw [HR.out];rfl,HB3.out⟩
    ·have HNN:=Lh (show ∀ j,j<k+1->leC l j=0 from fun j h=>by
      by_cases e:j=k
      ·rw [e];exact HCO.out.trans (if_neg hle)
      ·exact HN.out j (by omega))
     go_wp2
     go_roundw
     case rel=>exact ⟨k+1,by omega,by go_num,by rw [HSU.out];rfl,HB3.out,HNN.out⟩
     case measure=>simp [intOf];omega
   ·have HR:=Lh (show leS l 0=leE X from (HLA.out (by rw [HCE.out he];exact he)).trans (HCE.out he))
    have he' : (leE X != 0)=true:=by simpa using he
    clear he HCE HCO
    generalize leE X=y at*
    refine (HM.out _).mono ?_
    rintro e w3 ⟨rfl,hb⟩
    have HB3:=Lh (HBA.out.trans (hb.mono HBA.out.size))
    clear hb
    go_wp2
    go_ret
    exact ⟨by rw [HR.out];rfl,HB3.out⟩
  ·have HR:=Lh (leS_ok (l:=l) (fun j hj=>HN.out j (by omega)))
   go_wp2
   go_ret
   exact ⟨by rw [HR.out];rfl,HB.out⟩
end Go.Proofs.YtkecnihgjepfeaaGreat
namespace Go.Proofs.YtkecnihgjepfeaaGreat
open Go.RowKit
set_option linter.unusedVariables false
set_option linter.unusedSimpArgs false
set_option maxHeartbeats 8000000
set_option maxRecDepth 20000
open Classical in
theorem eqd_in (a b:Du) (W:World):(Op.equalIn 10000 155 a.v b.v).run Tryz.prog W=.ok (decide (a=b)) W:=by
 have u3:=Tryz.underlying3
 have hS:Tryz.prog.underlying 155=some (.struct (Tryz.prog.fieldsOf 155)):=by kernel_rfl
 have hp:Tryz.prog.stoodInHeld 155=false:=by kernel_rfl
 rw [show (10000:Nat)=9999+1 from rfl,run_equalIn_agg W 9999 155 _ _ hS hp]
 simp only [Program.fieldsOf,Tryz.underlying155]
 by_cases h0:a.dl=b.dl
 ·by_cases h1:a.id=b.id
  ·have e:decide (a=b)=true:=decide_eq_true (by cases a;cases b;simp_all)
   have h0' : (a.dl==b.dl)=true:=by simpa using h0
   have h1' : (a.id==b.id)=true:=by simpa using h1
   rw [e]
   clear e h0 h1
   go_simp
  ·have e:decide (a=b)=false:=decide_eq_false (fun e=>h1 (by rw [e]))
   have h0' : (a.dl==b.dl)=true:=by simpa using h0
   have h1' : (a.id==b.id)=false:=by simpa using h1
   rw [e]
   clear e h0 h1
   go_simp
 ·have e:decide (a=b)=false:=decide_eq_false (fun e=>h0 (by rw [e]))
  have h0' : (a.dl==b.dl)=false:=by simpa using h0
  rw [e]
  clear e h0
  go_simp
open Classical in
theorem eqd_yes (a:Du):∀ W,(binOp .eql 155 a.v a.v).run Tryz.prog W=.ok (.bool true) W:=fun W=>by
 rw [run_eql_struct,eqd_in,decide_eq_true (show a=a from rfl)];rfl
open Classical in
theorem eqd_no {a b:Du} (h:a≠b):∀ W,(binOp .eql 155 a.v b.v).run Tryz.prog W=.ok (.bool false) W:=fun W=>by
 rw [run_eql_struct,eqd_in,decide_eq_false h];rfl
end Go.Proofs.YtkecnihgjepfeaaGreat
namespace Go.Proofs.YtkecnihgjepfeaaGreat
open Go.RowKit
set_option linter.unusedVariables false
set_option linter.unusedSimpArgs false
set_option maxHeartbeats 8000000
set_option maxRecDepth 20000
abbrev DB (W:World) (p:Nat) (d:Du):Prop:=W.cell? ⟨p,0,none⟩=some (.int .i64 d.dl)/\W.cell? ⟨p,1,none⟩=some (.int .i64 d.id)/\p<W.heap.size
theorem DB.start (w:World) (d:Du) (t:TypeId):DB (w.alloc (.cells #[.int .i64 d.dl,.int .i64 d.id] t)) w.heap.size d:=⟨by simp [go_sem],by simp [go_sem],by simp⟩
theorem DB.below {B:Nat} {W W' : World} {p:Nat} {d:Du} (h:DB W p d) (hb:Below B W W') (hp:p<B):DB W' p d:=
 ⟨(hb.cell (p:=⟨p,0,none⟩) hp).trans h.1,(hb.cell (p:=⟨p,1,none⟩) hp).trans h.2.1,Nat.lt_of_lt_of_le h.2.2 hb.size⟩
def HxP (l:List Du) (d:Du) (w:World) (e:Ending) (w' : World):Prop:=∃ r:Int,e=.returned (.int .i64 r)/\(0<=r↔d∈l)/\Below w.heap.size w w'
theorem hx_yes {l:List Du} {d:Du} {k:Nat} (hk:k<l.length) (e:d=ge l k):0<=(k:Int)↔d∈l:=⟨fun _=>by rw [e];exact mem_ge hk,fun _=>by omega⟩
theorem hx_no {l:List Du} {d:Du} (h:∀ j,j<l.length->d≠ge l j):0<=(-1:Int)↔d∈l:=⟨fun h=>absurd h (by decide),fun hd=>by obtain ⟨j,hj,e⟩:=ge_mem hd;exact absurd e.symm (h j hj)⟩
open Classical in
theorem dindex_any (A:Option Addr) (n c:Nat) (l:List Du) (d:Du) (w:World) (hv:Dl w w.heap.size (.slice A n c) l) :
  Calls Tryz.prog 209 #[.slice A n c,d.v] w (HxP l d w):=by
 obtain ⟨rfl,hm1,hm2⟩:=hv.len
 have hL:l.length<=9223372036854775807:=by unfold maxLen at hm2;omega
 have HB:=Lh ((Below.refl w.heap.size w).alloc (nLR _) (.cells #[.int .i64 d.dl,.int .i64 d.id] 155))
 have HD:=Lh (DB.start w d 155)
 have HV:=Lh (hv.up HB.out)
 clear hv hm1 hm2
 go_enter Tryz.func209,Tryz.ntmps209
 go_wp2
 obtain ⟨p,hp⟩:∃ p,p=w.heap.size:=⟨_,rfl⟩
 rw [<-hp] at HD ⊢
 clear hp
 generalize w.alloc (.cells #[.int .i64 d.dl,.int .i64 d.id] 155)=w1 at*
 go_loopw [8] (fun i wr=>∃ k:Nat,k<=l.length/\i=.int .i64 k/\Below w1.heap.size w1 wr/\∀ j,j<k->d≠ge l j) (fun i _=>l.length - (intOf i).toNat)
 case atStart=>exact ⟨0,by omega,rfl,Below.refl _ _,fun j h=>absurd h (by omega)⟩
 case round=>
  obtain ⟨k,hk,rfl,hb,hno⟩:=hrel
  have HN:=Lh hno
  have HVK:=Lh (HV.out.below hb)
  obtain ⟨x0,x1,xl⟩:=HD.out.below hb HD.out.2.2
  have HB:=Lh (HB.out.trans (hb.mono HB.out.size))
  have HB1:=Lh hb
  clear hno hb
  by_cases hlt:k<l.length
  ·obtain ⟨b,o,rfl,hb,c0,c1⟩:=HVK.out.atg hlt
   by_cases he:d=ge l k
   ·have HR:=Lh (hx_yes hlt he)
    have heq:=eqd_yes d
    rw [<-he] at c0 c1
    clear he
    go_wp2
    go_quiet (fail)
    go_wp2
    go_ret
    exact ⟨k,rfl,HR.out,below_drewN HB.out _⟩
   ·have HNN:=Lh (show ∀ j,j<k+1->d≠ge l j from fun j h=>by
     by_cases e:j=k
     ·rw [e];exact he
     ·exact HN.out j (by omega))
    have heq:=eqd_no he
    clear he
    generalize ge l k=M at*
    go_wp2
    go_quiet (fail)
    go_wp2
    go_roundw
    case rel=>exact ⟨k+1,by omega,by go_num,below_drewN HB1.out _,HNN.out⟩
    case measure=>simp [intOf];omega
  ·have HR:=Lh (hx_no (l:=l) (d:=d) (fun j hj=>HN.out j (by omega)))
   go_wp2
   go_ret
   exact ⟨-1,rfl,HR.out,HB.out⟩
open Classical in
theorem dcontain_any (A:Option Addr) (n c:Nat) (l:List Du) (d:Du) (w:World) (hv:Dl w w.heap.size (.slice A n c) l) :
  Calls Tryz.prog 195 #[.slice A n c,d.v] w fun e w'=>e=.returned (.bool (decide (d∈l)))/\Below w.heap.size w w':=by
 have HB:=Lh ((Below.refl w.heap.size w).alloc (nLR _) (.cells #[.int .i64 d.dl,.int .i64 d.id] 155))
 have HC:=Lh (dindex_any A n c l d _ (hv.up HB.out))
 clear hv
 go_enter Tryz.func195,Tryz.ntmps195
 go_wp2_with fail
 refine HC.out.mono ?_
 rintro e w1 ⟨r,rfl,hr,hb1⟩
 have HB1:=Lh (HB.out.trans (hb1.mono HB.out.size))
 have HR:=Lh (show decide (0<=r)=decide (d∈l) from by rw [Bool.eq_iff_iff,decide_eq_true_iff,decide_eq_true_iff];exact hr)
 clear hr hb1
 go_wp2
 go_ret
 exact ⟨by rw [<-HR.out];rfl,HB1.out⟩
open Classical in
theorem consists_any (A:Option Addr) (n c:Nat) (l:List Le) (A2:Option Addr) (n2 c2:Nat) (h:List Du) (w:World) (hv:El w w.heap.size (.slice A n c) l) (hd:Dl w w.heap.size (.slice A2 n2 c2) h) :
  Calls Tryz.prog 175 #[.slice A2 n2 c2,.slice A n c] w fun e w'=>e=.returned (.bool (cnF h l))/\Below w.heap.size w w':=by
 obtain ⟨rfl,hm1,hm2⟩:=hv.len
 obtain ⟨rfl,hm3,hm4⟩:=hd.len
 have hL:l.length<=9223372036854775807:=by unfold maxLen at hm2;omega
 have hH:h.length<=9223372036854775807:=by unfold maxLen at hm4;omega
 have HV:=Lh hv
 have HD:=Lh hd
 have HB:=Lh (Below.refl w.heap.size w)
 clear hv hd hm1 hm2 hm3 hm4
 go_enter Tryz.func175,Tryz.ntmps175
 go_wp2
 go_loopw [9] (fun i wr=>∃ k:Nat,k<=l.length/\i=.int .i64 k/\Below w.heap.size w wr/\∀ j,j<k->(lg l j).du∈h) (fun i _=>l.length - (intOf i).toNat)
 case atStart=>exact ⟨0,by omega,rfl,HB.out,fun j h=>absurd h (by omega)⟩
 case round=>
  obtain ⟨k,hk,rfl,hb,hno⟩:=hrel
  have HN:=Lh hno
  have HVK:=Lh (HV.out.up hb)
  have HDK:=Lh (HD.out.up hb)
  have HB:=Lh hb
  clear hno hb
  by_cases hlt:k<l.length
  ·obtain ⟨b,o,rfl,_⟩:=HVK.out.some_ (by omega)
   obtain ⟨⟨c0,c1,c2',c3,c4,c5,c6,c7⟩,hb⟩:=HVK.out.c8 hlt
   obtain ⟨X,hX⟩:∃ X,l[k]=X:=⟨_,rfl⟩
   rw [hX] at c0 c1 c2' c3 c4 c5 c6 c7
   have HX:=Lh (show lg l k=X by rw [<-lg_get hlt];exact hX)
   clear hX hb
   have HBW:=Lh ((Below.refl wr.heap.size wr).alloc (nLR _) (.cells #[.int .i64 X.m.id,.int .i64 X.m.rt,.int .i64 X.m.ep,.int .i64 X.m.ct,.int .i64 X.m.gn,.int .i64 X.m.st,.string X.m.bd,.int .i64 X.dl] 152))
   have HXB:=Lh (El8.start wr X 152)
   have HF:=Lh (fun W=>dueof_any X W)
   have HC:=Lh (fun W hb=>dcontain_any A2 h.length c2 h X.du W (HDK.out.up hb))
   have HCN:=Lh (cnF_no (h:=h) hlt)
   rw [HX.out] at HCN
   have HB2:=Lh HB.out
   go_wp2_with fail
   clear c0 c1 c2' c3 c4 c5 c6 c7
   obtain ⟨q,hq⟩:∃ q,q=wr.heap.size:=⟨_,rfl⟩
   rw [<-hq] at HXB ⊢
   clear hq
   generalize wr.alloc (.cells #[.int .i64 X.m.id,.int .i64 X.m.rt,.int .i64 X.m.ep,.int .i64 X.m.ct,.int .i64 X.m.gn,.int .i64 X.m.st,.string X.m.bd,.int .i64 X.dl] 152)=w2 at*
   by_cases hm:X.du∈h
   ·have HNN:=Lh (show ∀ j,j<k+1->(lg l j).du∈h from fun j h=>by
     by_cases e:j=k
     ·rw [e,HX.out];exact hm
     ·exact HN.out j (by omega))
    rw [decide_eq_true hm] at HC
    clear hm
    refine (HF.out _).mono ?_
    rintro e w3 ⟨rfl,hb⟩
    have HB3:=Lh (HBW.out.trans (hb.mono HBW.out.size))
    clear hb
    go_wp2_with fail
    refine (HC.out _ HB3.out).mono ?_
    rintro e w4 ⟨rfl,hb⟩
    have HB4:=Lh (HB2.out.trans ((HB3.out.trans (hb.mono HB3.out.size)).mono HB2.out.size))
    clear hb
    go_wp2
    go_roundw
    case rel=>exact ⟨k+1,by omega,by go_num,HB4.out,HNN.out⟩
    case measure=>simp [intOf];omega
   ·have HR:=Lh (HCN.out hm)
    rw [decide_eq_false hm] at HC
    clear hm
    refine (HF.out _).mono ?_
    rintro e w3 ⟨rfl,hb⟩
    have HB3:=Lh (HBW.out.trans (hb.mono HBW.out.size))
    clear hb
    go_wp2_with fail
    refine (HC.out _ HB3.out).mono ?_
    rintro e w4 ⟨rfl,hb⟩
    have HB4:=Lh (HB2.out.trans ((HB3.out.trans (hb.mono HB3.out.size)).mono HB2.out.size))
    clear hb
    go_wp2
    go_ret
    exact ⟨by rw [HR.out];rfl,HB4.out⟩
  ·have HR:=Lh (cnF_len (h:=h) (l:=l) (fun j hj=>HN.out j (by omega)))
   by_cases hle:h.length=l.length
   ·rw [decide_eq_true hle] at HR
    have hle' : ((h.length:Int)==(l.length:Int))=true:=by simpa using (by omega:(h.length:Int)=l.length)
    clear hle
    go_wp2
    go_ret
    exact ⟨by rw [HR.out];simp_all,HB.out⟩
   ·rw [decide_eq_false hle] at HR
    have hle' : ((h.length:Int)==(l.length:Int))=false:=by simpa using (by omega:¬(h.length:Int)=l.length)
    clear hle
    go_wp2
    go_ret
    exact ⟨by rw [HR.out];simp_all,HB.out⟩
theorem tbV_lst {l:List Le} {h:List Du} (h1:¬12<l.length) (h2:leS l 0≠0):tbV l h=leS l 0:=by
 unfold tbV;rw [if_neg h1,if_pos h2]
theorem lvalid_any (A:Option Addr) (n c:Nat) (l:List Le) (A2:Option Addr) (n2 c2:Nat) (h:List Du) (w:World) (hv:El w w.heap.size (.slice A n c) l) (hd:Dl w w.heap.size (.slice A2 n2 c2) h) :
  Calls Tryz.prog 160 #[tv A n c A2 n2 c2] w fun e w'=>e=.returned (.int .i64 (tbV l h))/\Below w.heap.size w w':=by
 obtain ⟨rfl,hm1,hm2⟩:=hv.len
 obtain ⟨rfl,hm3,hm4⟩:=hd.len
 have H0:=Lh (VaA.start 70 hv hd)
 clear hv hd hm1 hm2 hm3 hm4
 by_cases h12:12<l.length
 ·have HR:=Lh (tbV_2 (h:=h) h12)
  have h12' : (12:Int)<(l.length:Int):=by omega
  have HB:=Lh H0.out.bel
  obtain ⟨t0,t1,tl⟩:=H0.out.tb
  clear h12
  go_enter Tryz.func160,Tryz.ntmps160
  go_wp2
  go_ret
  exact ⟨by rw [HR.out];rfl,HB.out⟩
 have h12' : ¬(12:Int)<(l.length:Int):=by omega
 have H12:=Lh h12
 clear h12
 have HL:=Lh (fun p W (k:VaA w p A c l A2 c2 h W)=>listerr_any A l.length c l W k.el)
 have HD:=Lh (fun p W (k:VaA w p A c l A2 c2 h W)=>dvalid_any A2 h.length c2 h W k.dl)
 have HC:=Lh (fun p W (k:VaA w p A c l A2 c2 h W)=>consists_any A l.length c l A2 h.length c2 h W k.el k.dl)
 by_cases h1:leS l 0=0
 ·rw [h1] at HL
  by_cases h2:vaF h=0
  ·rw [h2] at HD
   have HCO:=Lh (cnF_ofT h1 h2)
   cases h3:ofT (l.map Le.du) h with
   | false=>
    have HR:=Lh (tbV_7 H12.out h1 h2 h3)
    rw [HCO.out,h3] at HC
    clear HCO h1 h2 h3
    go_enter Tryz.func160,Tryz.ntmps160
    obtain ⟨t0,t1,tl⟩:=H0.out.tb
    go_wp2_with fail
    obtain ⟨p,hp⟩:∃ p,p=w.heap.size:=⟨_,rfl⟩
    rw [<-hp] at H0 ⊢
    clear t0 t1 tl hp
    generalize w.alloc (.cells #[.slice A l.length c,.slice A2 h.length c2] 70)=w1 at*
    refine (HL.out _ _ H0.out).mono ?_
    rintro e w2 ⟨rfl,hb⟩
    have H1:=Lh (H0.out.below hb)
    obtain ⟨t0,t1,tl⟩:=H1.out.tb
    clear hb
    go_wp2_with fail
    clear t0 t1 tl
    refine (HD.out _ _ H1.out).mono ?_
    rintro e w3 ⟨rfl,hb⟩
    have H2:=Lh (H1.out.below hb)
    obtain ⟨t0,t1,tl⟩:=H2.out.tb
    clear hb
    go_wp2_with fail
    clear t0 t1 tl
    refine (HC.out _ _ H2.out).mono ?_
    rintro e w4 ⟨rfl,hb⟩
    have H3:=Lh (H2.out.below hb).bel
    clear hb
    go_wp2
    go_ret
    exact ⟨by rw [HR.out];rfl,H3.out⟩
   | true=>
    have HR:=Lh (tbV_0 H12.out h1 h2 h3)
    rw [HCO.out,h3] at HC
    clear HCO h1 h2 h3
    go_enter Tryz.func160,Tryz.ntmps160
    obtain ⟨t0,t1,tl⟩:=H0.out.tb
    go_wp2_with fail
    obtain ⟨p,hp⟩:∃ p,p=w.heap.size:=⟨_,rfl⟩
    rw [<-hp] at H0 ⊢
    clear t0 t1 tl hp
    generalize w.alloc (.cells #[.slice A l.length c,.slice A2 h.length c2] 70)=w1 at*
    refine (HL.out _ _ H0.out).mono ?_
    rintro e w2 ⟨rfl,hb⟩
    have H1:=Lh (H0.out.below hb)
    obtain ⟨t0,t1,tl⟩:=H1.out.tb
    clear hb
    go_wp2_with fail
    clear t0 t1 tl
    refine (HD.out _ _ H1.out).mono ?_
    rintro e w3 ⟨rfl,hb⟩
    have H2:=Lh (H1.out.below hb)
    obtain ⟨t0,t1,tl⟩:=H2.out.tb
    clear hb
    go_wp2_with fail
    clear t0 t1 tl
    refine (HC.out _ _ H2.out).mono ?_
    rintro e w4 ⟨rfl,hb⟩
    have H3:=Lh (H2.out.below hb).bel
    clear hb
    go_wp2
    go_ret
    exact ⟨by rw [HR.out];rfl,H3.out⟩
  ·have HR:=Lh (tbV_va H12.out h1 h2)
   have h2' : (vaF h != 0)=true:=by simpa using h2
   clear h1 h2
   generalize vaF h=z at*
   go_enter Tryz.func160,Tryz.ntmps160
   obtain ⟨t0,t1,tl⟩:=H0.out.tb
   go_wp2_with fail
   obtain ⟨p,hp⟩:∃ p,p=w.heap.size:=⟨_,rfl⟩
   rw [<-hp] at H0 ⊢
   clear t0 t1 tl hp
   generalize w.alloc (.cells #[.slice A l.length c,.slice A2 h.length c2] 70)=w1 at*
   refine (HL.out _ _ H0.out).mono ?_
   rintro e w2 ⟨rfl,hb⟩
   have H1:=Lh (H0.out.below hb)
   obtain ⟨t0,t1,tl⟩:=H1.out.tb
   clear hb
   go_wp2_with fail
   clear t0 t1 tl
   refine (HD.out _ _ H1.out).mono ?_
   rintro e w3 ⟨rfl,hb⟩
   have H2:=Lh (H1.out.below hb).bel
   clear hb
   go_wp2
   go_ret
   exact ⟨by rw [HR.out];rfl,H2.out⟩
 ·have HR:=Lh (tbV_lst (h:=h) H12.out h1)
  have h1' : (leS l 0 != 0)=true:=by simpa using h1
  clear h1
  generalize leS l 0=z at*
  go_enter Tryz.func160,Tryz.ntmps160
  obtain ⟨t0,t1,tl⟩:=H0.out.tb
  go_wp2_with fail
  obtain ⟨p,hp⟩:∃ p,p=w.heap.size:=⟨_,rfl⟩
  rw [<-hp] at H0 ⊢
  clear t0 t1 tl hp
  generalize w.alloc (.cells #[.slice A l.length c,.slice A2 h.length c2] 70)=w1 at*
  refine (HL.out _ _ H0.out).mono ?_
  rintro e w2 ⟨rfl,hb⟩
  have H1:=Lh (H0.out.below hb).bel
  clear hb
  go_wp2
  go_ret
  exact ⟨by rw [HR.out];rfl,H1.out⟩
abbrev K8 (p:Nat) (S:Sh) (D:Sx) (W:World):Prop:=W.cell? ⟨p,0,none⟩=some (.bool S.lv)/\W.cell? ⟨p,1,none⟩=some (.int .i64 S.lo)/\W.cell? ⟨p,2,none⟩=some (.int .i64 S.hi)/\W.cell? ⟨p,3,none⟩=some (.slice D.A S.cs.length D.c)/\W.cell? ⟨p,4,none⟩=some (.int .i64 S.hd)/\W.cell? ⟨p,5,none⟩=some (.int .i64 S.sz)/\W.cell? ⟨p,6,none⟩=some (.slice D.A2 S.l.length D.c2)/\W.cell? ⟨p,7,none⟩=some (.slice D.A3 S.h.length D.c3)
theorem SAt.k8 {w W:World} {p:Nat} {S:Sh} {D:Sx} (h:SAt w p S D W):K8 p S D W:=⟨h.s8.c0,h.s8.c1,h.s8.c2,h.s8.c3,h.s8.c4,h.s8.c5,h.s8.c6,h.s8.c7⟩
theorem SB8.k8 {W:World} {p:Nat} {S:Sh} {D:Sx} (h:SB8 W p S D):K8 p S D W:=⟨h.c0,h.c1,h.c2,h.c3,h.c4,h.c5,h.c6,h.c7⟩
def ShAt (p:Nat) (S:Sh) (D:Sx) (W:World):Prop:=p<W.heap.size/\K8 p S D W
theorem ShAt.below {p:Nat} {S:Sh} {D:Sx} (W W' : World) (h:ShAt p S D W) (hb:Below W.heap.size W W'):ShAt p S D W':=by
 obtain ⟨hp,h0,h1,h2,h3,h4,h5,h6,h7⟩:=h
 have c:∀ o,W'.cell? ⟨p,o,none⟩=W.cell? ⟨p,o,none⟩:=fun o=>hb.cell (p:=⟨p,o,none⟩) hp
 exact ⟨Nat.lt_of_lt_of_le hp hb.size,(c 0).trans h0,(c 1).trans h1,(c 2).trans h2,(c 3).trans h3,(c 4).trans h4,(c 5).trans h5,(c 6).trans h6,(c 7).trans h7⟩
theorem live1_any (p:Nat) (S:Sh) (D:Sx) (M:Msg) (w:World) (h:ShAt p S D w) :
  Calls Tryz.prog 179 #[M.v,.pointer (some ⟨p,0,none⟩)] w fun e w'=>e=.returned (.bool (!wi M.rt S.lo S.hi))/\Below w.heap.size w w':=by
 have HB:=Lh ((Below.refl w.heap.size w).alloc (nLR _) (.cells M.cs 79))
 obtain ⟨hp,h0,h1,h2,h3,h4,h5,h6,h7⟩:=h
 have HC:=Lh (fun W=>shas_any S D M.rt W)
 generalize wi M.rt S.lo S.hi=b at*
 go_enter Tryz.func179,Tryz.ntmps179
 go_wp2_with fail
 refine (HC.out _).mono ?_
 rintro e w1 ⟨rfl,hb⟩
 have HB1:=Lh (HB.out.trans (hb.mono HB.out.size))
 clear hb
 go_wp2
 go_ret
 exact ⟨rfl,HB1.out⟩
theorem liE_1 {S:Sh} (h:spB S.lo S.hi=false):liE S=1:=if_pos h
theorem liE_3 {S:Sh} (h:spB S.lo S.hi=true) (h2:(S.cs.length:Int)<S.sz+S.l.length):liE S=3:=by unfold liE;rw [if_neg (by simp [h]),if_pos h2]
theorem liE_12 {S:Sh} (h:spB S.lo S.hi=true) (h2:¬(S.cs.length:Int)<S.sz+S.l.length) (h3:rtB S.lo S.hi S.al=true):liE S=12:=by unfold liE;rw [if_neg (by simp [h]),if_neg h2,if_pos h3]
theorem liE_10 {S:Sh} (h:spB S.lo S.hi=true) (h2:¬(S.cs.length:Int)<S.sz+S.l.length) (h3:rtB S.lo S.hi S.al=false) (h4:dpB S.al=true):liE S=10:=by unfold liE;rw [if_neg (by simp [h]),if_neg h2,if_neg (by simp [h3]),if_pos h4]
theorem liE_0 {S:Sh} (h:spB S.lo S.hi=true) (h2:¬(S.cs.length:Int)<S.sz+S.l.length) (h3:rtB S.lo S.hi S.al=false) (h4:dpB S.al=false):liE S=0:=by unfold liE;rw [if_neg (by simp [h]),if_neg h2,if_neg (by simp [h3]),if_neg (by simp [h4])]
theorem slive_any (S:Sh) (D:Sx) (w:World) (hs:SR w w.heap.size S D) (h0:0<=S.sz) (h1:S.sz<=12) (h2:S.l.length<=12) :
  Calls Tryz.prog 161 #[sv S D] w (VlT w (liE S)):=by
 have H0:=Lh (SAt.start 72 hs)
 have HSP:=Lh (fun W=>sspan_any S.lo S.hi W)
 have HSZ:=Lh (fun W=>ssize_any S D W h0 (by omega) (by omega))
 have HCA:=Lh (fun W=>scap_any S D W)
 have HMS:=Lh (fun p W (k:SAt w p S D W)=>smsgs_any S D W k.sr (by omega))
 have HCF:=Lh (fun p A c W (k:SAt w p S D W) (hl:Ls W W.heap.size (.slice A S.al.length c) S.al)=>cofuncV A S.al.length c S.al (.pointer (some ⟨p,0,none⟩)) (fun M=>!wi M.rt S.lo S.hi) (ShAt p S D) W hl ⟨k.lt,k.k8⟩ ShAt.below (fun M W h=>live1_any p S D M W h))
 have HDU:=Lh (fun A c W (hl:Ls W W.heap.size (.slice A S.al.length c) S.al)=>ssameid_any A S.al.length c S.al W hl)
 have HE1:=Lh (fun h=>liE_1 (S:=S) h)
 have HE3:=Lh (fun h g=>liE_3 (S:=S) h g)
 have HE12:=Lh (fun h g k=>liE_12 (S:=S) h g k)
 have HE10:=Lh (fun h g k d=>liE_10 (S:=S) h g k d)
 have HE0:=Lh (fun h g k d=>liE_0 (S:=S) h g k d)
 have HRT:Hid (rtB S.lo S.hi S.al=S.al.any (fun M=>!wi M.rt S.lo S.hi)):=Lh rfl
 have hmf:∀ (fn:Fn) (first cap:Array Value) (w:World),(Instr.makeFunc fn first cap).run Tryz.prog w=.ok (.func fn first cap) w:=fun _ _ _ _=>rfl
 clear hs h0 h1 h2
 generalize liE S=x at*
 go_enter Tryz.func161,Tryz.ntmps161
 obtain ⟨t0,t1,t2,t3,t4,t5,t6,t7,tl⟩:=H0.out.s8.facts
 go_wp2_with fail
 clear t0 t1 t2 t3 t4 t5 t6 t7 tl
 obtain ⟨p,hp⟩:∃ p,p=w.heap.size:=⟨_,rfl⟩
 rw [<-hp]
 rw [<-hp] at H0
 clear hp
 generalize w.alloc (.cells #[.bool S.lv,.int .i64 S.lo,.int .i64 S.hi,.slice D.A S.cs.length D.c,.int .i64 S.hd,.int .i64 S.sz,.slice D.A2 S.l.length D.c2,.slice D.A3 S.h.length D.c3] 72)=w1 at*
 refine (HSP.out _).mono ?_
 rintro e w2 ⟨rfl,rfl⟩
 cases hsp:spB S.lo S.hi with
 | false=>
  have HX:=Lh (HE1.out hsp)
  go_wp2
  go_ret
  exact ⟨by rw [HX.out];rfl,H0.out.bel⟩
 | true=>
  have HX1:=Lh hsp
  clear hsp
  have HD:=Lh H0.out.drew
  have HT0:=Lh (show K8 p S D w1.drew from HD.out.k8)
  obtain ⟨t0,t1,t2,t3,t4,t5,t6,t7,tl⟩:=HD.out.s8.facts
  go_wp2_with fail
  by_cases hfu:(S.cs.length:Int)<S.sz+S.l.length
  ·go_region_held3 (fun W=>K8 p S D W)
    (first | with_reducible exact HT0.out | with_reducible exact HT1.out | with_reducible exact HT2.out)
    (first
    | (go_at_call 162;(with_reducible refine (HSZ.out _).mono ?_);rintro e w3 ⟨rfl,hb⟩;have HA1:=Lh (HD.out.below hb);have HT1:=Lh HA1.out.k8;clear hb)
    | (go_at_call 176;(with_reducible refine (HCA.out _).mono ?_);rintro e w4 ⟨rfl,hb⟩;have HA2:=Lh (HA1.out.below hb);have HT2:=Lh HA2.out.k8;clear hb))
   have HX:=Lh (HE3.out HX1.out hfu)
   go_wp2
   go_ret
   exact ⟨by rw [HX.out];rfl,HA2.out.bel⟩
  ·go_region_held3 (fun W=>K8 p S D W)
    (first | with_reducible exact HT0.out | with_reducible exact HT1.out | with_reducible exact HT2.out)
    (first
    | (go_at_call 162;(with_reducible refine (HSZ.out _).mono ?_);rintro e w3 ⟨rfl,hb⟩;have HA1:=Lh (HD.out.below hb);have HT1:=Lh HA1.out.k8;clear hb)
    | (go_at_call 176;(with_reducible refine (HCA.out _).mono ?_);rintro e w4 ⟨rfl,hb⟩;have HA2:=Lh (HA1.out.below hb);have HT2:=Lh HA2.out.k8;clear hb))
   have HX2:=Lh hfu
   clear t0 t1 t2 t3 t4 t5 t6 t7 tl
   obtain ⟨t0,t1,t2,t3,t4,t5,t6,t7,tl⟩:=HA2.out.s8.facts
   go_wp2_with fail
   clear t0 t1 t2 t3 t4 t5 t6 t7 tl
   refine (HMS.out _ _ HA2.out).mono ?_
   rintro e w5 ⟨A5,c5,rfl,hw5,hb⟩
   have HA3:=Lh (HA2.out.below hb)
   have HL5:=Lh hw5.ls
   clear hw5 hb
   go_wp2_with fail
   refine (HCF.out _ _ _ _ HA3.out HL5.out).mono ?_
   rintro e w6 ⟨rfl,hb⟩
   rw [<-HRT.out]
   have HA4:=Lh (HA3.out.below hb)
   have HL6:=Lh (HL5.out.up hb)
   clear hb
   cases h3:rtB S.lo S.hi S.al with
   | true=>
    have HX:=Lh (HE12.out HX1.out HX2.out h3)
    go_wp2
    go_ret
    exact ⟨by rw [HX.out];rfl,HA4.out.bel⟩
   | false=>
    have HX3:=Lh h3
    clear h3
    go_wp2_with fail
    refine (HDU.out _ _ _ HL6.out).mono ?_
    rintro e w7 ⟨rfl,hb⟩
    have HA5:=Lh (HA4.out.below hb)
    clear hb
    cases h4:dpB S.al with
    | true=>
     have HX:=Lh (HE10.out HX1.out HX2.out HX3.out h4)
     go_wp2
     go_ret
     exact ⟨by rw [HX.out];rfl,HA5.out.bel⟩
    | false=>
     have HX:=Lh (HE0.out HX1.out HX2.out HX3.out h4)
     go_wp2
     go_ret
     exact ⟨by rw [HX.out];rfl,HA5.out.bel⟩
end Go.Proofs.YtkecnihgjepfeaaGreat
