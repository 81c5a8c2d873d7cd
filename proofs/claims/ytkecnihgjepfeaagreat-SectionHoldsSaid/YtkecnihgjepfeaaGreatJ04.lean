/- What is proved here: parts of the proof: Ror Eqm Eqg Fnd Lsc Rvl. -/
import Derived.Test.YtkecnihgjepfeaaGreatJ03
import Derived.Deep.RegionHeld3
import Derived.Deep.DrawnRows
import Derived.Laws.StructEq
import Derived.KernelRfl
import Derived.Laws.Slices
namespace Go.Proofs.YtkecnihgjepfeaaGreat
open Go.RowKit
set_option linter.unusedVariables false
set_option linter.unusedSimpArgs false
set_option maxHeartbeats 8000000
set_option maxRecDepth 20000
structure RgAt (w:World) (p:Nat) (A:Option Addr) (n c:Nat) (hd sz:Int) (W:World):Prop where
 c0:W.cell? ⟨p,0,none⟩=some (.slice A n c)
 c1:W.cell? ⟨p,1,none⟩=some (.int .i64 hd)
 c2:W.cell? ⟨p,2,none⟩=some (.int .i64 sz)
 bel:Below w.heap.size w W
 old:w.heap.size<=p/\p<W.heap.size
section
variable {w W W' : World} {p n c:Nat} {A:Option Addr} {hd sz:Int}
theorem RgAt.facts (h:RgAt w p A n c hd sz W):W.cell? ⟨p,0,none⟩=some (.slice A n c)/\W.cell? ⟨p,1,none⟩=some (.int .i64 hd)/\W.cell? ⟨p,2,none⟩=some (.int .i64 sz)/\p<W.heap.size:=⟨h.c0,h.c1,h.c2,h.old.2⟩
theorem RgAt.below (h:RgAt w p A n c hd sz W) (hb:Below W.heap.size W W'):RgAt w p A n c hd sz W':=
 ⟨(hb.cell (p:=⟨p,0,none⟩) h.old.2).trans h.c0,(hb.cell (p:=⟨p,1,none⟩) h.old.2).trans h.c1,(hb.cell (p:=⟨p,2,none⟩) h.old.2).trans h.c2,h.bel.trans (hb.mono h.bel.size),h.old.1,Nat.lt_of_lt_of_le h.old.2 hb.size⟩
theorem RgAt.start (w:World) (A:Option Addr) (n c:Nat) (hd sz:Int) (t:TypeId):RgAt w w.heap.size A n c hd sz (w.alloc (.cells #[.slice A n c,.int .i64 hd,.int .i64 sz] t)):=
 ⟨by simp [go_sem],by simp [go_sem],by simp [go_sem],(Below.refl _ _).alloc (nLR _) _,nLR _,by simp⟩
end
attribute [local go_sem ↓] Go.wp_at_zero Go.wp_at_succ
theorem eqm_in (M:Msg) (W:World):(Op.equalIn 10000 79 M.v M.v).run Tryz.prog W=.ok true W:=by
 have u3:=Tryz.underlying3
 have u9:=Tryz.underlying9
 have hS:Tryz.prog.underlying 79=some (.struct (Tryz.prog.fieldsOf 79)):=by kernel_rfl
 have hp:Tryz.prog.stoodInHeld 79=false:=by kernel_rfl
 rw [show (10000:Nat)=9999+1 from rfl,run_equalIn_agg W 9999 79 _ _ hS hp]
 simp only [Program.fieldsOf,Tryz.underlying79]
 go_simp
theorem neqm (M:Msg):∀ W,(binOp .neq 79 M.v M.v).run Tryz.prog W=.ok (.bool false) W:=fun W=>by
 rw [run_neq_struct,eqm_in];rfl
theorem msg_ext {M N:Msg} (h0:M.id=N.id) (h1:M.rt=N.rt) (h2:M.ep=N.ep) (h3:M.ct=N.ct) (h4:M.gn=N.gn) (h5:M.st=N.st) (h6:M.bd=N.bd):M=N:=by
 cases M;cases N;simp_all
theorem bytes_ne {a b:ByteArray} (h:a≠b):(a.toList==b.toList)=false:=by
 rw [<-beq_toListBytes]
 cases e:(a==b) with
 | false=>rfl
 | true=>
  obtain ⟨x⟩:=a
  obtain ⟨y⟩:=b
  have e' : (x==y)=true:=e
  exact absurd (by rw [beq_iff_eq.1 e']) h
theorem eqm_no (M N:Msg) (h:M≠N) (W:World):(Op.equalIn 10000 79 M.v N.v).run Tryz.prog W=.ok false W:=by
 have u3:=Tryz.underlying3
 have u9:=Tryz.underlying9
 have hS:Tryz.prog.underlying 79=some (.struct (Tryz.prog.fieldsOf 79)):=by kernel_rfl
 have hp:Tryz.prog.stoodInHeld 79=false:=by kernel_rfl
 rw [show (10000:Nat)=9999+1 from rfl,run_equalIn_agg W 9999 79 _ _ hS hp]
 simp only [Program.fieldsOf,Tryz.underlying79]
 by_cases h0:M.id=N.id
 ·by_cases h1:M.rt=N.rt
  ·by_cases h2:M.ep=N.ep
   ·by_cases h3:M.ct=N.ct
    ·by_cases h4:M.gn=N.gn
     ·by_cases h5:M.st=N.st
      ·have h6:M.bd≠N.bd:=fun h6=>h (msg_ext h0 h1 h2 h3 h4 h5 h6)
       have h6':=bytes_ne h6
       clear h h6
       go_simp
      ·have h5' : (M.st==N.st)=false:=by simpa using h5
       clear h h5
       go_simp
     ·have h4' : (M.gn==N.gn)=false:=by simpa using h4
      clear h h4
      go_simp
    ·have h3' : (M.ct==N.ct)=false:=by simpa using h3
     clear h h3
     go_simp
   ·have h2' : (M.ep==N.ep)=false:=by simpa using h2
    clear h h2
    go_simp
  ·have h1' : (M.rt==N.rt)=false:=by simpa using h1
   clear h h1
   go_simp
 ·have h0' : (M.id==N.id)=false:=by simpa using h0
  clear h h0
  go_simp
theorem neqm_ne (M N:Msg) (h:M≠N):∀ W,(binOp .neq 79 M.v N.v).run Tryz.prog W=.ok (.bool true) W:=fun W=>by
 rw [run_neq_struct,eqm_no M N h];rfl
theorem find1_yes (M:Msg) (id:Int) (p:Nat) (w:World) (hp:p<w.heap.size) (hc:w.cell? ⟨p,0,none⟩=some (.int .i64 id)) (he:M.id=id) :
  Calls Tryz.prog 203 #[M.v,.pointer (some ⟨p,0,none⟩)] w fun e w'=>e=.returned (.bool true)/\Below w.heap.size w w':=by
 have HB:=Lh ((Below.refl w.heap.size w).alloc (nLR _) (.cells M.cs 79))
 subst he
 go_enter Tryz.func203,Tryz.ntmps203
 go_wp2
 go_ret
 exact ⟨rfl,HB.out⟩
theorem find1_no (M:Msg) (id:Int) (p:Nat) (w:World) (hp:p<w.heap.size) (hc:w.cell? ⟨p,0,none⟩=some (.int .i64 id)) (he:M.id≠id) :
  Calls Tryz.prog 203 #[M.v,.pointer (some ⟨p,0,none⟩)] w fun e w'=>e=.returned (.bool false)/\Below w.heap.size w w':=by
 have HB:=Lh ((Below.refl w.heap.size w).alloc (nLR _) (.cells M.cs 79))
 have hd:(M.id==id)=false:=by simpa using he
 clear he
 go_enter Tryz.func203,Tryz.ntmps203
 go_wp2
 go_ret
 exact ⟨rfl,HB.out⟩
theorem ixfunc_any (A:Option Addr) (n c:Nat) (l:List Msg) (id:Int) (p:Nat) (w:World) (hv:Ls w w.heap.size (.slice A n c) l) (hp:p<w.heap.size) (hc:w.cell? ⟨p,0,none⟩=some (.int .i64 id)) :
  Calls Tryz.prog 197 #[.slice A n c,.func (.func 203) #[] #[.pointer (some ⟨p,0,none⟩)]] w fun e w'=>e=.returned (.int .i64 (ixF l id))/\Below w.heap.size w w':=by
 obtain ⟨rfl,hm1,hm2⟩:=hv.len
 have hL:l.length<=9223372036854775807:=by unfold maxLen at hm2;omega
 have HV:=Lh hv
 have HP:=Lh hp
 have HC:=Lh hc
 have HB:=Lh (Below.refl w.heap.size w)
 clear hv hm1 hm2 hp hc
 go_enter Tryz.func197,Tryz.ntmps197
 go_wp2
 go_loopw [8] (fun i wr=>∃ k:Nat,k<=l.length/\i=.int .i64 k/\Below w.heap.size w wr/\∀ j (hj:j<l.length),j<k->l[j].id≠id) (fun i _=>l.length - (intOf i).toNat)
 case atStart=>exact ⟨0,by omega,rfl,HB.out,fun j _ h=>absurd h (by omega)⟩
 case round=>
  obtain ⟨k,hk,rfl,hb,hno⟩:=hrel
  have HN:=Lh hno
  have HVK:=Lh (HV.out.below hb)
  have HPK:=Lh (Nat.lt_of_lt_of_le HP.out hb.size)
  have HCK:=Lh ((hb.cell (p:=⟨p,0,none⟩) HP.out).trans HC.out)
  have HB:=Lh hb
  clear hno hb
  by_cases hlt:k<l.length
  ·obtain ⟨b,o,rfl,hb,c0,c1,c2,c3,c4,c5,c6⟩:=HVK.out.at_ hlt
   by_cases he:l[k].id=id
   ·have HR:=Lh (ixF_hit hlt he HN.out)
    have HE:=Lh he
    clear he
    generalize l[k]=M at*
    go_wp2_with fail
    refine (find1_yes M id p _ HPK.out HCK.out HE.out).mono ?_
    rintro e w1 ⟨rfl,hb1⟩
    have HB1:=Lh (HB.out.trans (hb1.mono HB.out.size))
    clear hb1
    go_wp2
    go_ret
    exact ⟨by rw [HR.out];rfl,HB1.out⟩
   ·have HE:=Lh he
    clear he
    have HNN:=Lh (show ∀ j (hj:j<l.length),j<k+1->l[j].id≠id from fun j hj h=>by
     by_cases e:j=k
     ·subst e;exact HE.out
     ·exact HN.out j hj (by omega))
    generalize l[k]=M at*
    go_wp2_with fail
    refine (find1_no M id p _ HPK.out HCK.out HE.out).mono ?_
    rintro e w1 ⟨rfl,hb1⟩
    have HB1:=Lh (HB.out.trans (hb1.mono HB.out.size))
    clear hb1
    go_wp2
    go_roundw
    case rel=>exact ⟨k+1,by omega,by go_num,HB1.out,HNN.out⟩
    case measure=>simp [intOf];omega
  ·have HR:=Lh (ixF_none (id:=id) (fun j hj=>HN.out j hj (by omega)))
   go_wp2
   go_ret
   exact ⟨by rw [HR.out];rfl,HB.out⟩
theorem find_any (A:Option Addr) (n c:Nat) (l:List Msg) (id:Int) (w:World) (hv:Ls w w.heap.size (.slice A n c) l) :
  Calls Tryz.prog 189 #[.slice A n c,.int .i64 id] w fun e w'=>e=.returned (.int .i64 (ixF l id))/\Below w.heap.size w w':=by
 have HC:=Lh (ixfunc_any A n c l id w.heap.size (w.alloc (.cells #[.int .i64 id] 3)) ((hv.alloc (nLR _) _).more (by simp)) (by simp) (by simp [go_sem]))
 have HB:=Lh ((Below.refl w.heap.size w).alloc (nLR _) (.cells #[.int .i64 id] 3))
 have hmf:∀ (fn:Fn) (first cap:Array Value) (w:World),(Instr.makeFunc fn first cap).run Tryz.prog w=.ok (.func fn first cap) w:=fun _ _ _ _=>rfl
 clear hv
 generalize ixF l id=r at*
 go_enter Tryz.func189,Tryz.ntmps189
 go_wp2_with fail
 refine HC.out.mono ?_
 rintro e w1 ⟨rfl,hb1⟩
 have HB1:=Lh (HB.out.trans (hb1.mono HB.out.size))
 clear hb1
 go_wp2
 go_ret
 exact ⟨rfl,HB1.out⟩
section
variable {w:World} {B:Nat} {A:Option Addr} {n c:Nat} {l:List Msg}
theorem ls_under:Tryz.prog.underlying 27=some (.slice (Tryz.prog.elem 27)):=by kernel_rfl
theorem ls_elem:Tryz.prog.elem 27=79:=by kernel_rfl
theorem Ls.upto (h:Ls w B (.slice A n c) l) (j:Nat) (hj:j<=n):Ls w B (.slice A j c) (l.take j):=by
 obtain ⟨hn,hl,hm⟩:=h.len
 have hlen:(l.take j).length=j:=by simp;omega
 refine ⟨A,c,by rw [hlen],by rw [hlen];omega,hm,by rw [lcs_len],fun h0=>?_⟩
 rw [hlen] at h0
 obtain ⟨b,o,rfl,hb,hc⟩:=h.rd.2 (by omega)
 refine ⟨b,o,rfl,hb,fun k u hu=>hc k u ?_⟩
 rw [<-lcs_take] at hu
 have hk:k<j*7:=by
  have:=(List.getElem?_eq_some_iff.1 hu).1
  simp at this;omega
 rw [<-hu,List.getElem?_take_of_lt hk]
theorem run_lupto (A:Option Addr) (n c:Nat) (kh:IntKind) (j:Nat) (hj:j<=c):∀ W,(Instr.slice 27 (.slice A n c) none (some (.int kh (j:Int))) none).run Tryz.prog W=.ok (.slice A j c) W:=fun W=>by
 rw [run_slice_h W _ _ _ _ ls_under kh _ (by omega) (by omega),ls_elem,Tryz.sizeOf79]
 cases A <;> simp [Result.andThen,sliced,Addr.add]
end
theorem gnums_any (A:Option Addr) (n c:Nat) (hd sz:Int) (w:World) (hm:n<=maxLen) :
  Calls Tryz.prog 170 #[.agg #[.slice A n c,.int .i64 hd,.int .i64 sz]] w fun e w'=>e=.returned (.bool (nmB n hd sz))/\Below w.heap.size w w':=by
 have HB:=Lh ((Below.refl w.heap.size w).alloc (nLR _) (.cells #[.slice A n c,.int .i64 hd,.int .i64 sz] 66))
 have hcs:∀ (x lo hi:Int) (k:Bool),wi x lo hi=k->Hid (∀ w,Calls Tryz.prog 108 #[.int .i64 x,.int .i64 lo,.int .i64 hi] w fun e w'=>e=.returned (.bool k)/\w=w'):=fun x lo hi k h=>Lh (fun w=>by rw [<-h];exact gwithin_any x lo hi w)
 have hf:∀ k,nmB n hd sz=k->∀ e:Ending,e=.returned (.bool k)->e=.returned (.bool (nmB n hd sz)):=fun k h e he=>by rw [h];exact he
 have hm' : (n:Int)<=9223372036854775807:=by unfold maxLen at hm;omega
 have h0n:(0:Int)<=(n:Int):=by omega
 clear hm
 cases h0:wi n 1 12 with
 | false=>
  have H0:=hcs _ _ _ _ h0
  have HF:=Lh (hf false (by simp [nmB,h0]))
  clear hcs hf h0
  go_enter Tryz.func170,Tryz.ntmps170
  go_wp2_with fail
  refine (H0.out _).mono ?_
  rintro e w1 ⟨rfl,rfl⟩
  go_wp2
  go_ret
  exact ⟨HF.out _ rfl,HB.out⟩
 | true=>
  have H0:=hcs _ _ _ _ h0
  cases h1:wi hd 0 ((n:Int) - 1) with
  | false=>
   have H1:=hcs _ _ _ _ h1
   have HF:=Lh (hf false (by simp [nmB,h0,h1]))
   clear hcs hf h0 h1
   go_enter Tryz.func170,Tryz.ntmps170
   go_wp2_with fail
   refine (H0.out _).mono ?_
   rintro e w1 ⟨rfl,rfl⟩
   go_wp2_with fail
   refine (H1.out _).mono ?_
   rintro e w1 ⟨rfl,rfl⟩
   go_wp2
   go_ret
   exact ⟨HF.out _ rfl,HB.out⟩
  | true=>
   have H1:=hcs _ _ _ _ h1
   cases h2:wi sz 0 n with
   | false=>
    have H2:=hcs _ _ _ _ h2
    have HF:=Lh (hf false (by simp [nmB,h0,h1,h2]))
    clear hcs hf h0 h1 h2
    go_enter Tryz.func170,Tryz.ntmps170
    go_wp2_with fail
    refine (H0.out _).mono ?_
    rintro e w1 ⟨rfl,rfl⟩
    go_wp2_with fail
    refine (H1.out _).mono ?_
    rintro e w1 ⟨rfl,rfl⟩
    go_wp2_with fail
    refine (H2.out _).mono ?_
    rintro e w1 ⟨rfl,rfl⟩
    go_wp2
    go_ret
    exact ⟨HF.out _ rfl,HB.out⟩
   | true=>
    have H2:=hcs _ _ _ _ h2
    have HF:=Lh (hf true (by simp [nmB,h0,h1,h2]))
    clear hcs hf h0 h1 h2
    go_enter Tryz.func170,Tryz.ntmps170
    go_wp2_with fail
    refine (H0.out _).mono ?_
    rintro e w1 ⟨rfl,rfl⟩
    go_wp2_with fail
    refine (H1.out _).mono ?_
    rintro e w1 ⟨rfl,rfl⟩
    go_wp2_with fail
    refine (H2.out _).mono ?_
    rintro e w1 ⟨rfl,rfl⟩
    go_wp2
    go_ret
    exact ⟨HF.out _ rfl,HB.out⟩
open Classical in
noncomputable def zfB (cs:List Msg) (hd sz:Nat):Bool:=decide (∀ k,sz<=k->k<cs.length->cel cs hd k=zM)
open Classical in
theorem zfB_yes {cs:List Msg} {hd sz:Nat} (h:∀ k,sz<=k->k<cs.length->cel cs hd k=zM):zfB cs hd sz=true:=decide_eq_true h
open Classical in
theorem zfB_no {cs:List Msg} {hd sz k:Nat} (h1:sz<=k) (h2:k<cs.length) (h:cel cs hd k≠zM):zfB cs hd sz=false:=decide_eq_false (fun g=>h (g k h1 h2))
open Classical in
theorem zfB_of {cs:List Msg} {hd sz:Nat} (h:zfB cs hd sz=true):∀ k,sz<=k->k<cs.length->cel cs hd k=zM:=of_decide_eq_true h
open Classical in
theorem zfB_not {cs:List Msg} {hd sz:Nat} (h:zfB cs hd sz=false):¬∀ k,sz<=k->k<cs.length->cel cs hd k=zM:=of_decide_eq_false h
theorem RgAt.step {w W W' : World} {p n c b m:Nat} {A:Option Addr} {hd sz:Int} {X:Msg} (h:RgAt w p A n c hd sz W) (hc:C7 W b m X) (hbw:b<W.heap.size) (hb:Below W.heap.size W W') :
  Hid (RgAt w p A n c hd sz W')/\(W'.cell? ⟨p,0,none⟩=some (.slice A n c)/\W'.cell? ⟨p,1,none⟩=some (.int .i64 hd)/\W'.cell? ⟨p,2,none⟩=some (.int .i64 sz)/\p<W'.heap.size)/\C7 W' b m X:=
 ⟨Lh (h.below hb),(h.below hb).facts,hc.below hb hbw⟩
theorem zfree_any (A:Option Addr) (n c:Nat) (cs:List Msg) (hd sz:Nat) (w:World) (hv:Ls w w.heap.size (.slice A n c) cs) (hn:nmB cs.length hd sz=true) :
  Calls Tryz.prog 171 #[.agg #[.slice A n c,.int .i64 hd,.int .i64 sz]] w fun e w'=>e=.returned (.bool (zfB cs hd sz))/\Below w.heap.size w w':=by
 obtain ⟨rfl,hm1,hm2⟩:=hv.len
 obtain ⟨⟨n1,n2⟩,⟨h1,h2⟩,⟨s1,s2⟩⟩:=nm_of hn
 have HV:=Lh hv
 clear hv hn
 go_enter Tryz.func171,Tryz.ntmps171
 go_wp2
 have HS:=Lh (RgAt.start w A cs.length c hd sz 66)
 obtain ⟨p,hp⟩:∃ p,p=w.heap.size:=⟨_,rfl⟩
 rw [<-hp] at HS ⊢
 have HPP:=Lh hp
 clear hp
 go_loopw [3] (fun i wr=>∃ k:Nat,k<=cs.length/\sz<=k/\i=.int .i64 k/\RgAt w p A cs.length c hd sz wr/\∀ j,sz<=j->j<k->cel cs hd j=zM) (fun i _=>cs.length - (intOf i).toNat)
 case atStart=>exact ⟨sz,by omega,nLR _,rfl,HS.out,fun j h h'=>absurd h (by omega)⟩
 case round=>
  obtain ⟨k,hk,hsk,rfl,hr,hz⟩:=hrel
  have HR:=Lh hr
  have HZ:=Lh hz
  have HVK:=Lh (HV.out.below hr.bel)
  obtain ⟨r0,r1,r2,hpl⟩:=hr.facts
  clear hr hz
  by_cases hlt:k<cs.length
  ·obtain ⟨m,hm⟩:∃ m,m=(hd+k) % cs.length:=⟨_,rfl⟩
   have hml:m<cs.length:=by rw [hm];exact Nat.mod_lt _ (by omega)
   have HX:=Lh (cel_get (by omega) m hm hml)
   have HPL:=Lh (fun w=>place_any A cs.length c hd sz k (by omega) (by omega) (by omega) (by omega) (by omega) (by omega) w)
   have hmi:((hd:Int)+(k:Int)) % (cs.length:Int)=(m:Int):=by rw [hm];simp
   rw [hmi] at HPL
   obtain ⟨b,o,rfl,hb,hc⟩:=HVK.out.at_ hml
   generalize cs[m]=X at*
   have hbw:b<wr.heap.size:=by have:=HPP.out;omega
   have HST:=Lh (fun w1 (hb1:Below wr.drew.heap.size wr.drew w1)=>RgAt.step (X:=X) HR.out hc hbw (drew_below hb1))
   clear hm hmi hb hc
   by_cases he:X=zM
   ·have hne:∀ W,(binOp .neq 79 X.v (.agg #[.int .i64 0,.int .i64 0,.int .i64 0,.int .i64 0,.int .i64 0,.int .i64 0,.string ⟨#[]⟩])).run Tryz.prog W=.ok (.bool false) W:=by rw [he];exact neqm zM
    have HE:=Lh he
    clear he
    go_wp2
    go_region_with ((go_at_call 184;refine (HPL.out _).mono ?_;rintro e w1 ⟨rfl,hb1⟩;obtain ⟨HR1,⟨x0,x1,x2,hpl1⟩,⟨d0,d1,d2,d3,d4,d5,d6⟩⟩:=HST.out _ hb1;clear hb1))
    all_goals
     clear d0 d1 d2 d3 d4 d5 d6
     go_wp2
     go_roundw
     case rel=>
      refine ⟨k+1,by omega,by omega,by go_num,HR1.out,fun j h h'=>?_⟩
      by_cases e:j=k
      ·rw [e,<-HX.out,HE.out]
      ·exact HZ.out j h (by omega)
     case measure=>simp [intOf];omega
   ·have hne:∀ W,(binOp .neq 79 X.v (.agg #[.int .i64 0,.int .i64 0,.int .i64 0,.int .i64 0,.int .i64 0,.int .i64 0,.string ⟨#[]⟩])).run Tryz.prog W=.ok (.bool true) W:=neqm_ne X zM he
    have HF:=Lh (zfB_no hsk hlt (by rw [<-HX.out];exact he))
    clear he
    go_wp2
    go_region_with ((go_at_call 184;refine (HPL.out _).mono ?_;rintro e w1 ⟨rfl,hb1⟩;obtain ⟨HR1,⟨x0,x1,x2,hpl1⟩,⟨d0,d1,d2,d3,d4,d5,d6⟩⟩:=HST.out _ hb1;clear hb1))
    all_goals
     clear d0 d1 d2 d3 d4 d5 d6
     go_wp2
     go_ret
     exact ⟨by rw [HF.out];rfl,HR1.out.bel⟩
  ·have HF:=Lh (zfB_yes (cs:=cs) (hd:=hd) (sz:=sz) (fun j h h'=>HZ.out j h (by omega)))
   go_wp2
   go_ret
   exact ⟨by rw [HF.out];rfl,HR.out.bel⟩
end Go.Proofs.YtkecnihgjepfeaaGreat
