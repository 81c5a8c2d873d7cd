/- What is proved here: parts of the proof: Gow Gsq Uba Ubb Ubc Ubd. -/
import Derived.Test.YtkecnihgjepfeaaGreatJ49
/- Plain: the owners of a section's cells while its locker locks them and gives them back, alone in its arena. -/
namespace Go.Proofs.YtkecnihgjepfeaaGreat
open Go.RowKit
set_option linter.unusedVariables false
set_option linter.unusedSimpArgs false
set_option maxHeartbeats 8000000
set_option maxRecDepth 20000
def Ow15 (N:Nat) (cs:List Int) (t:Int) (a:Ar) (h:Nat):Prop:=∀ x,x<=N->a.own x=if ∃ i,i<h/\ig cs i=(x:Int) then t else 0
section
variable {N:Nat} {cs:List Int} {t:Int} {a:Ar} {h:Nat}
theorem okc_nat (hc:OkC N cs) {i:Nat} (hi:i<cs.length):ig cs i=((ig cs i).toNat:Int)/\(ig cs i).toNat<=N:=by
 have:=hc.rng i hi
 omega
theorem okc_ne (hc:OkC N cs) {i j:Nat} (hij:i<j) (hj:j<cs.length):ig cs i≠ig cs j:=by
 have:=hc.asc i j hij hj
 omega
theorem Ow15.more (hc:OkC N cs) (hN:a.sl.length=N) (hh:h<cs.length) (ho:Ow15 N cs t a h):a.own (ig cs h).toNat=0/\Ow15 N cs t (a.setOwn (ig cs h).toNat t) (h+1):=by
 obtain ⟨e1,e2⟩:=okc_nat hc hh
 have h0:a.own (ig cs h).toNat=0:=by
  rw [ho _ e2,if_neg]
  rintro ⟨i,hi,e⟩
  exact okc_ne hc hi hh (e.trans e1.symm)
 refine ⟨h0,fun x hx=>?_⟩
 rw [(own_set13 (a:=a) (n:=(ig cs h).toNat) (x:=x) (v:=t) (by omega) (by omega)).1]
 by_cases hxc:x=(ig cs h).toNat
 ·rw [if_pos hxc,if_pos ⟨h,Nat.lt_succ_self h,by rw [hxc];exact e1⟩]
 ·rw [if_neg hxc,ho x hx]
  by_cases hex:∃ i,i<h/\ig cs i=(x:Int)
  ·obtain ⟨i,hi,e⟩:=hex
   rw [if_pos ⟨i,hi,e⟩,if_pos ⟨i,by omega,e⟩]
  ·rw [if_neg hex,if_neg]
   rintro ⟨i,hi,e⟩
   rcases Nat.lt_succ_iff_lt_or_eq.1 hi with h1 | rfl
   ·exact hex ⟨i,h1,e⟩
   ·exact hxc (by omega)
theorem Ow15.less (hc:OkC N cs) (hN:a.sl.length=N) (hh:h<cs.length) (ho:Ow15 N cs t a (h+1)):a.own (ig cs h).toNat=t/\Ow15 N cs t (a.setOwn (ig cs h).toNat 0) h:=by
 obtain ⟨e1,e2⟩:=okc_nat hc hh
 refine ⟨by rw [ho _ e2,if_pos ⟨h,Nat.lt_succ_self h,e1⟩],fun x hx=>?_⟩
 rw [(own_set13 (a:=a) (n:=(ig cs h).toNat) (x:=x) (v:=0) (by omega) (by omega)).1]
 by_cases hxc:x=(ig cs h).toNat
 ·rw [if_pos hxc,if_neg]
  rintro ⟨i,hi,e⟩
  exact okc_ne hc hi hh (by rw [e,hxc];exact e1.symm)
 ·rw [if_neg hxc,ho x hx]
  by_cases hex:∃ i,i<h/\ig cs i=(x:Int)
  ·obtain ⟨i,hi,e⟩:=hex
   rw [if_pos ⟨i,by omega,e⟩,if_pos ⟨i,hi,e⟩]
  ·rw [if_neg hex,if_neg]
   rintro ⟨i,hi,e⟩
   rcases Nat.lt_succ_iff_lt_or_eq.1 hi with h1 | rfl
   ·exact hex ⟨i,h1,e⟩
   ·exact hxc (by omega)
theorem ow_lock (hc:OkC N cs) (t1:1<=t) (t2:t<=200) (hN:a.sl.length=N) (hh:h<cs.length) (ho:Ow15 N cs t a h) :
  stE13 a ⟨cs,0,h,0,0⟩ t=0/\stA13 a ⟨cs,0,h,0,0⟩ t=a.setOwn (ig cs h).toNat t/\stL13 a ⟨cs,0,h,0,0⟩ t=⟨cs,if ((h:Int)+1)=cs.length then 3 else 0,(h:Int)+1,0,0⟩/\Ow15 N cs t (a.setOwn (ig cs h).toNat t) (h+1):=by
 obtain ⟨e1,e2⟩:=okc_nat hc hh
 obtain ⟨h0,h1⟩:=Ow15.more hc hN hh ho
 obtain ⟨g1,g2,g3⟩:=st_acq (a:=a) (l:=⟨cs,0,h,0,0⟩) (t:=t) (c:=(ig cs h).toNat) rfl (by simp [Lk.h]) (by simpa [Lk.h] using hh) (by simpa [Lk.h] using e1) (by omega) t1 t2
 rw [h0,if_pos rfl] at g2
 rw [h0] at g3
 exact ⟨g1,g2,by rw [g3];simp [aqL],h1⟩
theorem ow_free (hc:OkC N cs) (t1:1<=t) (t2:t<=200) (hN:a.sl.length=N) (hh:h<cs.length) (ho:Ow15 N cs t a (h+1)) :
  stE13 a ⟨cs,4,(h:Int)+1,0,0⟩ t=0/\stA13 a ⟨cs,4,(h:Int)+1,0,0⟩ t=a.setOwn (ig cs h).toNat 0/\stL13 a ⟨cs,4,(h:Int)+1,0,0⟩ t=⟨cs,if h=0 then 5 else 4,(h:Int),0,0⟩/\Ow15 N cs t (a.setOwn (ig cs h).toNat 0) h:=by
 obtain ⟨e1,e2⟩:=okc_nat hc hh
 obtain ⟨h0,h1⟩:=Ow15.less hc hN hh ho
 have hl:(⟨cs,4,(h:Int)+1,0,0⟩:Lk).h=h+1:=by show ((h:Int)+1).toNat=h+1;omega
 obtain ⟨g1,g2,g3⟩:=st_rel (a:=a) (l:=⟨cs,4,(h:Int)+1,0,0⟩) (t:=t) (c:=(ig cs h).toNat) (.inr rfl) (by rw [hl];rfl) (by rw [hl];omega) (by rw [hl];exact hh) (by rw [hl];exact e1) (by omega) t1 t2 h0
 refine ⟨g1,g2,?_,h1⟩
 rw [g3]
 unfold gbL
 by_cases h00:h=0
 ·subst h00
  simp
 ·have h2:(0:Int)<(h:Int):=by omega
  simp [h00,h2]
theorem Ow15.all (ho:Ow15 N cs t a cs.length) {i:Nat} (hc:OkC N cs) (hi:i<cs.length):a.own (ig cs i).toNat=t:=by
 obtain ⟨e1,e2⟩:=okc_nat hc hi
 rw [ho _ e2,if_pos ⟨i,hi,e1⟩]
theorem Ow15.none (ho:Ow15 N cs t a 0) {x:Nat} (hx:x<=N):a.own x=0:=by
 rw [ho x hx,if_neg]
 rintro ⟨i,hi,-⟩
 omega
theorem Ow15.start (h:∀ x,x<=N->a.own x=0):Ow15 N cs t a 0:=fun x hx=>by
 rw [h x hx,if_neg]
 rintro ⟨i,hi,-⟩
 omega
end
end Go.Proofs.YtkecnihgjepfeaaGreat
/- Plain: the sequence numbers of a section's stripes while it marks and unmarks them, alone in a new arena. -/
namespace Go.Proofs.YtkecnihgjepfeaaGreat
open Go.RowKit
set_option linter.unusedVariables false
set_option linter.unusedSimpArgs false
set_option maxHeartbeats 8000000
set_option maxRecDepth 20000
def Sq15 (N:Nat) (cs:List Int) (a:Ar) (m1 m2:Nat):Prop:=∀ x,x<N->(tg a.st x).sq=(if ∃ i,i<m1/\ig cs i=(x:Int) then 1 else 0)+(if ∃ i,i<m2/\ig cs i=(x:Int) then 1 else 0)
section
variable {N:Nat} {cs:List Int} {a:Ar} {m1 m2:Nat} {s:St}
theorem tg_set {l:List St} {i j:Nat} (hi:i<l.length):tg (l.set i s) j=if i=j then s else tg l j:=by
 unfold tg
 by_cases h:i=j
 ·subst h
  simp [List.getD,hi]
 ·simp [List.getD,h]
theorem in_succ (hc:OkC N cs) {m x:Nat} (hm:m<cs.length):(∃ i,i<m+1/\ig cs i=(x:Int))↔(∃ i,i<m/\ig cs i=(x:Int))\/x=(ig cs m).toNat:=by
 obtain ⟨e1,e2⟩:=okc_nat hc hm
 constructor
 ·rintro ⟨i,hi,e⟩
  rcases Nat.lt_succ_iff_lt_or_eq.1 hi with h1 | rfl
  ·exact .inl ⟨i,h1,e⟩
  ·exact .inr (by omega)
 ·rintro (⟨i,hi,e⟩ | rfl)
  ·exact ⟨i,by omega,e⟩
  ·exact ⟨m,Nat.lt_succ_self m,e1⟩
theorem not_in (hc:OkC N cs) {m k:Nat} (hm:k<cs.length) (hk:m<=k):¬∃ i,i<m/\ig cs i=((ig cs k).toNat:Int):=by
 obtain ⟨e1,-⟩:=okc_nat hc hm
 rintro ⟨i,hi,e⟩
 exact okc_ne hc (show i<k by omega) hm (e.trans e1.symm)
theorem Sq15.mark (hc:OkC N cs) (hN:a.st.length=N) (hm:m1<cs.length) (hx:(ig cs m1).toNat<N) (h:Sq15 N cs a m1 0):(tg a.st (ig cs m1).toNat).sq=0/\∀ s:St,s.sq=1->Sq15 N cs (a.setSt (ig cs m1).toNat s) (m1+1) 0:=by
 have z0:∀ x:Nat,¬∃ i,i<0/\ig cs i=(x:Int):=fun x=>by rintro ⟨i,hi,-⟩;omega
 refine ⟨by rw [h _ hx,if_neg (not_in hc hm (nLR _)),if_neg (z0 _)];rfl,fun s hs x hxN=>?_⟩
 have e:(a.setSt (ig cs m1).toNat s).st=a.st.set (ig cs m1).toNat s:=rfl
 rw [e,tg_set (by omega)]
 by_cases hxc:(ig cs m1).toNat=x
 ·rw [if_pos hxc,hs,if_pos ((in_succ hc hm).2 (.inr hxc.symm)),if_neg (z0 _)];rfl
 ·rw [if_neg hxc,h x hxN]
  congr 1
  by_cases hex:∃ i,i<m1/\ig cs i=(x:Int)
  ·rw [if_pos hex,if_pos ((in_succ hc hm).2 (.inl hex))]
  ·rw [if_neg hex,if_neg]
   intro h1
   rcases (in_succ hc hm).1 h1 with h2 | h2
   ·exact hex h2
   ·exact hxc h2.symm
theorem Sq15.unmark {K:Nat} (hc:OkC N cs) (hN:a.st.length=N) (hm:m2<K) (hK:K<=cs.length) (hx:(ig cs m2).toNat<N) (h:Sq15 N cs a K m2):(tg a.st (ig cs m2).toNat).sq=1/\∀ s:St,s.sq=2->Sq15 N cs (a.setSt (ig cs m2).toNat s) K (m2+1):=by
 have hm' : m2<cs.length:=by omega
 obtain ⟨e1,e2⟩:=okc_nat hc hm'
 have hin:∃ i,i<K/\ig cs i=((ig cs m2).toNat:Int):=⟨m2,hm,e1⟩
 refine ⟨by rw [h _ hx,if_pos hin,if_neg (not_in hc hm' (nLR _))];rfl,fun s hs x hxN=>?_⟩
 have e:(a.setSt (ig cs m2).toNat s).st=a.st.set (ig cs m2).toNat s:=rfl
 rw [e,tg_set (by omega)]
 by_cases hxc:(ig cs m2).toNat=x
 ·subst hxc
  rw [if_pos rfl,hs,if_pos hin,if_pos ((in_succ hc hm').2 (.inr rfl))];rfl
 ·rw [if_neg hxc,h x hxN]
  congr 1
  by_cases hex:∃ i,i<m2/\ig cs i=(x:Int)
  ·rw [if_pos hex,if_pos ((in_succ hc hm').2 (.inl hex))]
  ·rw [if_neg hex,if_neg]
   intro h1
   rcases (in_succ hc hm').1 h1 with h2 | h2
   ·exact hex h2
   ·exact hxc h2.symm
theorem Sq15.odd {K i:Nat} (hc:OkC N cs) (hi:i<K) (hK:K<=cs.length) (hx:(ig cs i).toNat<N) (h:Sq15 N cs a K 0):(tg a.st (ig cs i).toNat).sq=1:=by
 obtain ⟨e1,-⟩:=okc_nat hc (show i<cs.length by omega)
 rw [h _ hx,if_pos ⟨i,hi,e1⟩,if_neg (by rintro ⟨j,hj,-⟩;omega)];rfl
theorem Sq15.even {K x:Nat} (hx:x<N) (h:Sq15 N cs a K K):(tg a.st x).sq % 2=0:=by
 rw [h x hx]
 by_cases hex:∃ i,i<K/\ig cs i=(x:Int)
 ·rw [if_pos hex];rfl
 ·rw [if_neg hex];rfl
theorem Sq15.start (h:∀ x,x<N->(tg a.st x).sq=0):Sq15 N cs a 0 0:=fun x hx=>by
 have z0:¬∃ i,i<0/\ig cs i=(x:Int):=by rintro ⟨i,hi,-⟩;omega
 rw [h x hx,if_neg z0];rfl
end
theorem nw_sq {s:Su} (h:suB s=true) {x:Nat} (hx:x<s.sl.toNat):(tg (nwA s).st x).sq=0:=by
 have e:nwA s=grA s s.sl.toNat s.sl.toNat s.dd:=if_pos h
 rw [e]
 have e2:tg (List.replicate s.sl.toNat (stE s)) x=stE s:=by simp [tg,List.getD,hx]
 show (tg (List.replicate s.sl.toNat (stE s)) x).sq=0
 rw [e2]
 rfl
end Go.Proofs.YtkecnihgjepfeaaGreat
/- Plain: what holds of a section and its arena, phase by phase, when the section is alone in it: the arena's side. -/
namespace Go.Proofs.YtkecnihgjepfeaaGreat
open Go.RowKit
set_option linter.unusedVariables false
set_option linter.unusedSimpArgs false
set_option maxHeartbeats 8000000
set_option maxRecDepth 20000
structure Cx15 where
 N:Nat
 cs:List Int
 t:Int
 lim:Int
 A:Ar
def Cx15.K (C:Cx15):Nat:=slF C.N C.cs
def Cx15.c (C:Cx15) (i:Nat):Nat:=(ig C.cs i).toNat
structure Cx15.Ok (C:Cx15):Prop where
 hc:OkC C.N C.cs
 l:1<=C.cs.length/\C.cs.length<=2
 t:1<=C.t/\C.t<=9
 lim:1<=C.lim/\C.lim<=8
 sh:∀ x,x<C.N->shV (og C.A.sl x).sh=0
 hl:∀ x,x<C.N->(og C.A.sl x).sh.cs.length<=1000/\(og C.A.sl x).sh.l.length<=1000/\(og C.A.sl x).sh.h.length<=1000
 ep:0<=C.A.ep/\C.A.ep<=65536
 dl:va8 C.A.cap C.A.dl=0/\C.A.dl.length<=1000
theorem slF_at {N:Nat} {l:List Int} (h:slF N l<l.length):ig l (slF N l)=(N:Int):=by
 induction l with
 | nil=>simp at h
 | cons c l ih=>
  unfold slF at h ⊢
  split
  ·rename_i hc
   simpa [ig] using hc
  ·rename_i hc
   rw [if_neg hc] at h
   have:=ih (by simpa using h)
   simpa [ig] using this
section
variable {C:Cx15} {i:Nat}
theorem Cx15.Ok.kl (h:C.Ok):C.K<=C.cs.length:=slF_le _ _
theorem Cx15.Ok.at_ (h:C.Ok) (hi:i<C.cs.length):ig C.cs i=(C.c i:Int)/\C.c i<=C.N/\(i<C.K->C.c i<C.N)/\(¬i<C.K->C.c i=C.N):=by
 obtain ⟨e1,e2⟩:=okc_nat h.hc hi
 refine ⟨e1,e2,fun hk=>?_,fun hk=>?_⟩
 ·have h1:=slF_lt (N:=C.N) (l:=C.cs) (j:=i) hk
  have h2:C.c i=(ig C.cs i).toNat:=rfl
  have h3:=(h.hc.rng i hi)
  omega
 ·have hk2:C.K<C.cs.length:=by omega
  have h1:=slF_at (N:=C.N) (l:=C.cs) hk2
  have h2:ig C.cs C.K=(C.N:Int):=h1
  by_cases e:i=C.K
  ·rw [<-e] at h2
   have h3:C.c i=(ig C.cs i).toNat:=rfl
   omega
  ·have h3:=h.hc.asc C.K i (by omega) hi
   have h4:=h.hc.rng i hi
   omega
end
def StR15 (u:St):Prop:=(0<=u.ep/\u.ep<=1099511627776)/\(0<=u.rd/\u.rd<=1099511627776)/\(0<=u.ls/\u.ls<=1099511627776)
structure Ai15 (C:Cx15) (a:Ar) (h m1 m2:Nat):Prop where
 sl:a.sl.length=C.N
 st:a.st.length=C.N
 sh:∀ x,x<C.N->(og a.sl x).sh=(og C.A.sl x).sh
 cap:a.cap=C.A.cap
 dl:a.dl=C.A.dl
 ep:a.ep=C.A.ep
 fw:a.Few
 ow:Ow15 C.N C.cs C.t a h
 sq:Sq15 C.N C.cs a m1 m2
 rg:∀ x,x<C.N->StR15 (tg a.st x)
section
variable {C:Cx15} {a:Ar} {h m1 m2 i:Nat}
theorem Ai15.isl (k:Ai15 C a h m1 m2) {x:Nat} (hx:x<C.N):islB a (x:Int)=true:=isl_t k.sl k.st hx
theorem Ai15.mine (hC:C.Ok) (k:Ai15 C a C.cs.length m1 m2) (hi:i<C.cs.length):a.own (C.c i)=C.t:=Ow15.all k.ow hC.hc hi
theorem Ai15.sle (hC:C.Ok) (k:Ai15 C a C.cs.length m1 m2) (hi:i<C.K):slE a (ig C.cs i) C.t=0:=by
 have hl:=hC.kl
 obtain ⟨e1,-,e2,-⟩:=hC.at_ (i:=i) (by omega)
 rw [e1,slE_t k.sl k.st (e2 hi) hC.t.1 hC.t.2,k.mine hC (by omega),if_pos rfl]
theorem Ai15.owe (hC:C.Ok) (k:Ai15 C a C.cs.length m1 m2) (hi:i<C.cs.length) (hk:¬i<C.K):owE a (a.sl.length:Int) C.t=0:=by
 obtain ⟨e1,-,-,e2⟩:=hC.at_ hi
 have h1:=k.mine hC hi
 rw [e2 hk] at h1
 unfold owE
 rw [k.sl,if_pos (lk_09 (nLR _) hC.t.1 hC.t.2)]
 rw [show ((C.N:Int)).toNat=C.N by omega,h1,if_pos rfl]
theorem setOwn_rest (a:Ar) (n:Nat) (v:Int):(a.setOwn n v).st=a.st/\(a.setOwn n v).cap=a.cap/\(a.setOwn n v).dl=a.dl/\(a.setOwn n v).ep=a.ep/\(a.setOwn n v).sl.length=a.sl.length:=by
 unfold Ar.setOwn
 split <;> simp
theorem setOwn_sh (a:Ar) (n:Nat) (v:Int) (x:Nat):(og (a.setOwn n v).sl x).sh=(og a.sl x).sh:=by
 unfold Ar.setOwn
 split
 ·rfl
 ·show (og (a.sl.set n ⟨v,(og a.sl n).sh⟩) x).sh=_
  unfold og
  by_cases e:n=x
  ·subst e
   by_cases hl:n<a.sl.length
   ·simp [List.getD,hl]
   ·simp [List.getD,hl]
  ·simp [List.getD,e]
theorem Ai15.own_ (k:Ai15 C a h m1 m2) {n h2:Nat} {v:Int} (ho:Ow15 C.N C.cs C.t (a.setOwn n v) h2):Ai15 C (a.setOwn n v) h2 m1 m2:=by
 obtain ⟨e1,e2,e3,e4,e5⟩:=setOwn_rest a n v
 refine ⟨e5.trans k.sl,by rw [e1];exact k.st,fun x hx=>(setOwn_sh a n v x).trans (k.sh x hx),e2.trans k.cap,e3.trans k.dl,e4.trans k.ep,k.fw.own n v,ho,fun x hx=>by rw [e1];exact k.sq x hx,fun x hx=>by rw [e1];exact k.rg x hx⟩
theorem Ai15.str (k:Ai15 C a h m1 m2) {x n1 n2:Nat} {s:St} (hx:x<C.N) (hr:StR15 s) (hq:Sq15 C.N C.cs (a.setSt x s) n1 n2):Ai15 C (a.setSt x s) h n1 n2:=by
 refine ⟨k.sl,by show (a.st.set x s).length=_;rw [List.length_set];exact k.st,k.sh,k.cap,k.dl,k.ep,k.fw.stripe x s,k.ow,hq,fun y hy=>?_⟩
 show StR15 (tg (a.st.set x s) y)
 rw [tg_set (by rw [k.st];exact hx)]
 split
 ·exact hr
 ·exact k.rg y hy
theorem setSh_same (a:Ar) (n:Nat):a.setSh n (og a.sl n).sh=a:=by
 have e:a.sl.set n ⟨(og a.sl n).ow,(og a.sl n).sh⟩=a.sl:=by
  show a.sl.set n (og a.sl n)=a.sl
  apply List.ext_getElem
  ·simp
  ·intro j h1 h2
   by_cases hj:n=j
   ·subst hj
    simp [og,List.getD,h2]
   ·simp [hj]
 show (⟨a.sl.set n ⟨(og a.sl n).ow,(og a.sl n).sh⟩,a.st,a.ow,a.cap,a.dl,a.dir,a.ep,a.ck,a.ni⟩:Ar)=a
 rw [e]
theorem bg_st {u:St} (h0:u.sq=0) (hr:StR15 u):bgE u=0/\bgT u=⟨1,u.ep,u.rd,u.ls⟩/\StR15 (bgT u)/\(bgT u).sq=1/\(wi (bgT u).sq 0 1099511627776=true/\wi (bgT u).ep 0 1099511627776=true/\wi (bgT u).rd 0 1099511627776=true/\wi (bgT u).ls 0 1099511627776=true):=by
 have e:bgE u=0:=by
  unfold bgE
  rw [h0,if_neg (by decide),if_neg (by decide),if_neg (by decide)]
 have e2:bgT u=⟨1,u.ep,u.rd,u.ls⟩:=by unfold bgT;rw [if_pos e,h0];rfl
 obtain ⟨a1,a2,a3⟩:=hr
 rw [e2]
 exact ⟨e,rfl,⟨a1,a2,a3⟩,rfl,wi_true (show (0:Int)<=1 by decide) (show (1:Int)<=1099511627776 by decide),wi_true a1.1 a1.2,wi_true a2.1 a2.2,wi_true a3.1 a3.2⟩
theorem en_st {u:St} {H:Sh} {ep lim:Int} (h0:u.sq=1) (hV:shV H=0) (hl:H.cs.length<=1000/\H.l.length<=1000) (he:0<=ep/\ep<=65536) (hm:1<=lim/\lim<=8):enE u H ep lim=0/\(enT u H ep lim).sq=2/\StR15 (enT u H ep lim)/\(wi (enT u H ep lim).sq 0 1099511627776=true/\wi (enT u H ep lim).ep 0 1099511627776=true/\wi (enT u H ep lim).rd 0 1099511627776=true/\wi (enT u H ep lim).ls 0 1099511627776=true):=by
 have hE:enE u H ep lim=0:=by
  unfold enE
  rw [h0,if_neg (by decide),if_neg (by decide),if_neg (by rw [hV];decide),if_pos (by rw [wi_true he.1 he.2,wi_true hm.1 hm.2];rfl)]
 have hT:enT u H ep lim=⟨2,ep,ctR H ep lim,ctL H ep lim⟩:=by unfold enT;rw [if_pos hE,h0];rfl
 have c1:0<=ctR H ep lim/\ctR H ep lim<=1000:=by
  unfold ctR
  split
  ·have h1:=List.countP_le_length (p:=fun M=>!puF M ep&&!spF M lim) (l:=lsF H.cs H.hd H.sz)
   have h2:=lsF_le H.cs H.hd H.sz
   omega
  ·decide
 have c2:0<=ctL H ep lim/\ctL H ep lim<=1000:=by
  unfold ctL
  split
  ·have h1:=List.countP_le_length (p:=fun M=>!puF M ep) (l:=H.l.map Le.m)
   rw [List.length_map] at h1
   omega
  ·decide
 rw [hT]
 exact ⟨hE,rfl,⟨⟨he.1,by show ep<=_;omega⟩,⟨c1.1,by show ctR H ep lim<=_;omega⟩,⟨c2.1,by show ctL H ep lim<=_;omega⟩⟩,wi_true (show (0:Int)<=2 by decide) (show (2:Int)<=1099511627776 by decide),wi_true he.1 (show ep<=1099511627776 by omega),wi_true c1.1 (show ctR H ep lim<=1099511627776 by omega),wi_true c2.1 (show ctL H ep lim<=1099511627776 by omega)⟩
end
end Go.Proofs.YtkecnihgjepfeaaGreat
/- Plain: what holds of a section and its arena, phase by phase, when the section is alone in it: the section's side. -/
namespace Go.Proofs.YtkecnihgjepfeaaGreat
open Go.RowKit
set_option linter.unusedVariables false
set_option linter.unusedSimpArgs false
set_option maxHeartbeats 8000000
set_option maxRecDepth 20000
structure Px15 where
 ph:Int
 at_:Nat
 lp:Int
 h:Nat
 m1:Nat
 m2:Nat
 nst:Nat
 nld:Nat
 sp:Nat
 dc:Bool
 od:List Int
 oc:List Msg
 ca:List Msg
def pL15 (h:Nat):Px15:=⟨0,0,0,h,0,0,0,0,0,false,[],[],[]⟩
def pM15 (C:Cx15) (j:Nat):Px15:=⟨1,j,3,C.cs.length,j / 2,0,(j+1) / 2,0,0,false,[],[],[]⟩
def pD15 (C:Cx15) (i:Nat):Px15:=⟨2,i,3,C.cs.length,C.K,0,C.K,i,0,false,[],[],[]⟩
def pN15 (C:Cx15) (q:Nat):Px15:=⟨3,0,3,C.cs.length,C.K,0,C.K,C.cs.length,q,false,[],[],[]⟩
def pE15 (C:Cx15):Px15:=⟨4,0,3,C.cs.length,C.K,0,C.K,C.cs.length,3,false,[],[],[]⟩
def pS15 (C:Cx15) (od:List Int) (oc:List Msg) (i:Nat):Px15:=⟨5,i,3,C.cs.length,C.K,0,C.K,C.cs.length,3,true,od,oc,if i=0 then [] else oc⟩
def pU15 (C:Cx15) (od:List Int) (oc:List Msg) (i:Nat):Px15:=⟨7,i,3,C.cs.length,C.K,i,C.K,C.cs.length,3,true,od,oc,[]⟩
def pF15 (C:Cx15) (od:List Int) (oc:List Msg) (h:Nat):Px15:=⟨8,0,4,h,C.K,C.K,C.K,C.cs.length,3,true,od,oc,[]⟩
def pZ15 (C:Cx15) (od:List Int) (oc:List Msg):Px15:=⟨9,0,5,0,C.K,C.K,C.K,C.cs.length,3,true,od,oc,[]⟩
structure Si15 (C:Cx15) (p:Px15) (a:Ar) (s:Se):Prop where
 ph:s.ph=p.ph
 at_:s.at_=(p.at_:Int)
 lk:s.lk=⟨C.cs,p.lp,(p.h:Int),0,0⟩
 sn:s.sn.ph=(p.sp:Int)/\(1<=p.sp->s.sn.ep=C.A.ep)
 sl:s.sh.length=min p.nld C.K
 sh:∀ i,i<min p.nld C.K->sgS s.sh i=(og C.A.sl (C.c i)).sh
 dl:(s.dl=[]\/s.dl=C.A.dl)/\(C.K<p.nld->s.dc=C.A.cap/\s.dl=C.A.dl)
 stl:s.st.length=p.nst
 st:∀ i,p.m2<=i->i<p.nst->tg s.st i=tg a.st (C.c i)
 dir:s.dir=zD10
 lim:s.lim=C.lim
 ca:s.ca=p.ca
 o:s.o=if p.dc=true then ⟨s.sh,s.dc,s.dl,p.od,p.oc,[]⟩ else zOu
 w:p.od.length<=9/\p.oc.length<=9/\p.ca.length<=9/\p.nst<=9
def Hx15 (C:Cx15) (p:Px15) (a:Ar) (s:Se):Prop:=Ai15 C a p.h p.m1 p.m2/\Si15 C p a s
def Nx15 (C:Cx15) (p:Px15) (a:Ar) (Y:Ax) (s:Se) (X:Sex) (n:Int) (w:World):Prop:=∃ a' s',Hx15 C p a' s'/\Calls Tryz.prog 13 #[av a Y,sev s X,.int .i64 C.t,.int .i64 n] w (SE15n w a' s' 0)
section
variable {C:Cx15} {p:Px15} {a:Ar} {s:Se}
theorem Si15.sms (hC:C.Ok) (h:Si15 C p a s):SmS s.sh:=by
 have hk:=hC.kl
 have hl:=hC.l
 have h1:=h.sl
 refine ⟨by omega,fun S hS=>?_⟩
 obtain ⟨i,hi,rfl⟩:=List.getElem_of_mem hS
 have e:s.sh[i]=sgS s.sh i:=by simp [sgS,List.getD,hi]
 have hi2:i<min p.nld C.K:=by omega
 rw [e,h.sh i hi2]
 exact hC.hl _ ((hC.at_ (i:=i) (by omega)).2.2.1 (by omega))
theorem Si15.smc (hC:C.Ok) (h:Si15 C p a s):SmC s:=by
 have hs:=h.sms hC
 have hl:=hC.l
 have hd:s.dl.length<=1000:=by
  rcases h.dl.1 with e | e
  ·rw [e];simp
  ·rw [e];exact hC.dl.2
 have hw:=h.w
 refine ⟨by rw [h.lk];show C.cs.length<=9;omega,hs,hd,by rw [h.stl];omega,by rw [h.dir];exact ⟨by simp [zD10],by simp [zD10]⟩,by rw [h.ca];omega,?_⟩
 rw [h.o]
 split
 ·exact ⟨hs,hd,by show p.od.length<=1000;omega,by show p.oc.length<=1000;omega,rfl⟩
 ·exact smo0
theorem Si15.lsm (hC:C.Ok) (h:Si15 C p a s) (hp:p.h<=C.cs.length):s.lk.sm:=by
 have hl:=hC.l
 rw [h.lk]
 exact ⟨by show -9<=(p.h:Int)/\(p.h:Int)<=9;omega,by show (-9:Int)<=0/\(0:Int)<=1000000;omega,by show (-9:Int)<=0/\(0:Int)<=9;omega,by show C.cs.length<=9;omega⟩
end
section
variable {N:Nat} {s:Se} {ph k:Int}
theorem eph_self (h:emB N s ph=false):ephF N s ph=ph:=if_neg (by rw [h];decide)
theorem eph_one (h:emB N s ph=true) (h1:emB N s (ph+1)=false):ephF N s ph=ph+1:=by unfold ephF;rw [if_pos h,if_neg (by rw [h1];decide)]
theorem eph_two (h:emB N s ph=true) (h1:emB N s (ph+1)=true) (h2:emB N s (ph+2)=false):ephF N s ph=ph+2:=by unfold ephF;rw [if_pos h,if_pos h1,if_neg (by rw [h2];decide)]
theorem eph_three (h:emB N s ph=true) (h1:emB N s (ph+1)=true) (h2:emB N s (ph+2)=true):ephF N s ph=ph+3:=by unfold ephF;rw [if_pos h,if_pos h1,if_pos h2]
theorem enp_ntr (h:ephF N s ph=k) (hk:k≠8):enP N s ph=s.ntr k/\ntE N s ph=0:=by
 unfold enP ntE
 rw [h,if_neg hk,if_neg hk]
 exact ⟨rfl,rfl⟩
theorem enp_free (h:ephF N s ph=8) (hl:s.lk.ph=3):enP N s ph=(s.lkd ⟨s.lk.cs,4,s.lk.hv,s.lk.tr,s.lk.wt⟩).ntr 8/\ntE N s ph=0:=by
 unfold enP ntE
 rw [h,if_pos rfl,if_pos rfl]
 unfold frL frE
 rw [if_pos hl,if_pos hl]
 exact ⟨rfl,rfl⟩
theorem emB_1:emB N s 1=decide (slF N s.lk.cs=0):=if_pos rfl
theorem emB_5:emB N s 5=decide (s.o.od.length=0):=by unfold emB;rw [if_neg (by decide),if_pos rfl]
theorem emB_6:emB N s 6=decide (s.o.ed.length=0):=by unfold emB;rw [if_neg (by decide),if_neg (by decide),if_pos rfl]
theorem emB_7:emB N s 7=decide (s.sh.length=0):=by unfold emB;rw [if_neg (by decide),if_neg (by decide),if_neg (by decide),if_pos rfl]
theorem avP_in {k:Int} (h:s.at_+1<k):avP N s k ph = { s with at_:=s.at_+1 }/\avE N s k ph=0:=⟨if_pos h,if_pos h⟩
theorem avP_end {k:Int} (h:¬s.at_+1<k):avP N s k ph=enP N { s with at_:=s.at_+1 } ph/\avE N s k ph=ntE N { s with at_:=s.at_+1 } ph:=⟨if_neg h,if_neg h⟩
end
section
variable {C:Cx15} {a:Ar} {Y:Ax} {s:Se} {X:Sex} {n:Int} {w:World}
theorem hx_lock (hC:C.Ok) {h:Nat} (k:Hx15 C (pL15 h) a s) (hh:h<C.cs.length) (har:AR w w.heap.size a Y) (hse:SeR w w.heap.size s X) :
  (h+1<C.cs.length/\Nx15 C (pL15 (h+1)) a Y s X n w)\/(h+1=C.cs.length/\0<C.K/\Nx15 C (pM15 C 0) a Y s X n w)\/(h+1=C.cs.length/\C.K=0/\Nx15 C (pD15 C 0) a Y s X n w):=by
 obtain ⟨ka,ks⟩:=k
 have hl:=hC.l
 have elk:s.lk=⟨C.cs,0,(h:Int),0,0⟩:=ks.lk
 obtain ⟨g1,g2,g3,g4⟩:=ow_lock hC.hc (show 1<=C.t from hC.t.1) (by have:=hC.t.2;omega) ka.sl hh ka.ow
 rw [<-elk] at g1 g2 g3
 have ha:=ka.own_ g4
 have hA:slA a s C.t=a.setOwn (ig C.cs h).toNat C.t:=g2
 by_cases hm:h+1<C.cs.length
 ·rw [if_neg (by omega)] at g3
  have hP:slP a s C.t 3 1=s.lkd ⟨C.cs,0,(h:Int)+1,0,0⟩:=by unfold slP;rw [g3];exact if_neg (show ¬(0:Int)=3 by decide)
  have h0:slE15 a s C.t 3 1=0:=by unfold slE15;rw [g3];exact if_neg (show ¬(0:Int)=3 by decide)
  have kc:=ust_lock (n:=n) w har hse ka.fw (ks.smc hC) ks.ph (ks.lsm hC (show h<=_ by omega)) (by rw [g3];show C.cs.length<=9;omega) g1 h0
  rw [hA,hP] at kc
  refine .inl ⟨hm,_,_,⟨ha,?_⟩,kc⟩
  exact ⟨ks.ph,ks.at_,by show (⟨C.cs,0,(h:Int)+1,0,0⟩:Lk)=⟨C.cs,0,((h+1:Nat):Int),0,0⟩;rw [Int.natCast_add];rfl,ks.sn,ks.sl,ks.sh,ks.dl,ks.stl,fun i h1 h2=>absurd h2 (Nat.not_lt_zero _),ks.dir,ks.lim,ks.ca,ks.o,ks.w⟩
 ·have hm2:h+1=C.cs.length:=by omega
  rw [if_pos (by omega)] at g3
  have eN:(stA13 a s.lk C.t).sl.length=C.N:=by rw [g2];exact ha.sl
  have hP0:slP a s C.t 3 1=enP C.N (s.lkd ⟨C.cs,3,(h:Int)+1,0,0⟩) 1:=by unfold slP;rw [g3,eN];exact if_pos rfl
  have hE0:slE15 a s C.t 3 1=ntE C.N (s.lkd ⟨C.cs,3,(h:Int)+1,0,0⟩) 1:=by unfold slE15;rw [g3,eN];exact if_pos rfl
  have elk2:(⟨C.cs,3,(h:Int)+1,0,0⟩:Lk)=⟨C.cs,3,(C.cs.length:Int),0,0⟩:=by rw [<-hm2,Int.natCast_add];rfl
  rw [elk2] at hP0 hE0
  have ha2:Ai15 C (a.setOwn (ig C.cs h).toNat C.t) C.cs.length 0 0:=hm2 ▸ ha
  by_cases hK:C.K=0
  ·have e1:emB C.N (s.lkd ⟨C.cs,3,(C.cs.length:Int),0,0⟩) 1=true:=by rw [emB_1];exact decide_eq_true hK
   have e2:=enp_ntr (eph_one e1 (emB_not (by decide) (.inl (by decide)))) (by decide)
   rw [e2.1] at hP0
   rw [e2.2] at hE0
   have kc:=ust_lock (n:=n) w har hse ka.fw (ks.smc hC) ks.ph (ks.lsm hC (show h<=_ by omega)) (by rw [g3];show C.cs.length<=9;omega) g1 hE0
   rw [hA,hP0] at kc
   refine .inr (.inr ⟨hm2,hK,_,_,⟨?_,?_⟩,kc⟩)
   ·show Ai15 C _ C.cs.length C.K 0
    rw [hK];exact ha2
   ·exact ⟨rfl,rfl,rfl,ks.sn,ks.sl,ks.sh,ks.dl,by show s.st.length=C.K;rw [hK];exact ks.stl,fun i h1 h2=>absurd h2 (by show ¬i<C.K;omega),ks.dir,ks.lim,ks.ca,ks.o,⟨Nat.zero_le _,Nat.zero_le _,Nat.zero_le _,by show C.K<=9;omega⟩⟩
  ·have e1:emB C.N (s.lkd ⟨C.cs,3,(C.cs.length:Int),0,0⟩) 1=false:=by rw [emB_1];exact decide_eq_false hK
   have e2:=enp_ntr (eph_self e1) (by decide)
   rw [e2.1] at hP0
   rw [e2.2] at hE0
   have kc:=ust_lock (n:=n) w har hse ka.fw (ks.smc hC) ks.ph (ks.lsm hC (show h<=_ by omega)) (by rw [g3];show C.cs.length<=9;omega) g1 hE0
   rw [hA,hP0] at kc
   refine .inr (.inl ⟨hm2,Nat.pos_of_ne_zero hK,_,_,⟨ha2,?_⟩,kc⟩)
   exact ⟨rfl,rfl,rfl,ks.sn,ks.sl,ks.sh,ks.dl,ks.stl,fun i h1 h2=>absurd h2 (Nat.not_lt_zero _),ks.dir,ks.lim,ks.ca,ks.o,ks.w⟩
theorem hx_marke (hC:C.Ok) {i:Nat} (k:Hx15 C (pM15 C (2*i)) a s) (hi:i<C.K) (har:AR w w.heap.size a Y) (hse:SeR w w.heap.size s X):Nx15 C (pM15 C (2*i+1)) a Y s X n w:=by
 obtain ⟨ka,ks⟩:=k
 have hl:=hC.l
 have hkl:=hC.kl
 obtain ⟨c1,c2,c3,-⟩:=hC.at_ (i:=i) (by omega)
 have elk:s.lk.cs=C.cs:=by rw [ks.lk]
 have eat:s.at_=2*(i:Int):=by rw [ks.at_];show ((2*i:Nat):Int)=_;omega
 have estl:s.st.length=i:=by rw [ks.stl];show (2*i+1) / 2=i;omega
 have eK:(2*(slF a.sl.length s.lk.cs:Int))=2*(C.K:Int):=by rw [ka.sl,elk];rfl
 have av:=avP_in (N:=a.sl.length) (s:={ s with st:=s.st++[tg a.st (C.c i)] }) (ph:=2) (k:=2*(C.K:Int)) (by show s.at_+1<_;rw [eat];omega)
 have kc:=ust_marke (n:=n) (t:=C.t) w har hse ka.fw (ks.smc hC) ks.ph i (C.c i) eat (by rw [elk];omega) (by rw [elk];exact c1) (ka.isl (c3 hi)) (by omega) (by rw [eK];exact av.2)
 rw [eK,av.1] at kc
 refine ⟨_,_,⟨?_,?_⟩,kc⟩
 ·show Ai15 C a C.cs.length ((2*i+1) / 2) 0
  rw [show (2*i+1) / 2=2*i / 2 by omega]
  exact ka
 ·have e2:(2*i+1+1) / 2=i+1:=by omega
  refine ⟨ks.ph,?_,ks.lk,ks.sn,ks.sl,ks.sh,ks.dl,?_,fun j h1 h2=>?_,ks.dir,ks.lim,ks.ca,ks.o,⟨ks.w.1,ks.w.2.1,ks.w.2.2.1,by show (2*i+1+1) / 2<=9;omega⟩⟩
  ·show s.at_+1=((2*i+1:Nat):Int);rw [eat];omega
  ·show (s.st++[tg a.st (C.c i)]).length=(2*i+1+1) / 2
   rw [List.length_append,estl,e2];rfl
  ·show tg (s.st++[tg a.st (C.c i)]) j=tg a.st (C.c j)
   have h3:j<i+1:=by have:j<(2*i+1+1) / 2:=h2;omega
   by_cases hj:j<i
   ·have e3:tg (s.st++[tg a.st (C.c i)]) j=tg s.st j:=by
     unfold tg
     simp [List.getD,List.getElem?_append,estl,hj]
    rw [e3]
    exact ks.st j (Nat.zero_le _) (by show j<(2*i+1) / 2;omega)
   ·obtain rfl:j=i:=by omega
    unfold tg
    simp [List.getD,List.getElem?_append,estl]
theorem hx_marko (hC:C.Ok) {i:Nat} (k:Hx15 C (pM15 C (2*i+1)) a s) (hi:i<C.K) (har:AR w w.heap.size a Y) (hse:SeR w w.heap.size s X) :
  (i+1<C.K/\Nx15 C (pM15 C (2*(i+1))) a Y s X n w)\/(i+1=C.K/\Nx15 C (pD15 C 0) a Y s X n w):=by
 obtain ⟨ka,ks⟩:=k
 have hl:=hC.l
 have hkl:=hC.kl
 obtain ⟨c1,c2,c3,-⟩:=hC.at_ (i:=i) (by omega)
 have elk:s.lk.cs=C.cs:=by rw [ks.lk]
 have eat:s.at_=2*(i:Int)+1:=by rw [ks.at_];show ((2*i+1:Nat):Int)=_;omega
 have estl:s.st.length=i+1:=by rw [ks.stl];show (2*i+1+1) / 2=_;omega
 have em1:(2*i+1) / 2=i:=by omega
 have ka2:Ai15 C a C.cs.length i 0:=by
  have k2:Ai15 C a C.cs.length ((2*i+1) / 2) 0:=ka
  rwa [em1] at k2
 have et:tg s.st i=tg a.st (C.c i):=ks.st i (Nat.zero_le _) (by show i<(2*i+1+1) / 2;omega)
 have hsq:=Sq15.mark hC.hc ka2.st (show i<C.cs.length by omega) (c3 hi) ka2.sq
 have hb:=bg_st hsq.1 (ka2.rg _ (c3 hi))
 have hb0:bgE (tg s.st i)=0:=by rw [et];exact hb.1
 have hsl:slE a (ig s.lk.cs i) C.t=0:=by rw [elk];exact ka2.sle hC hi
 obtain ⟨T,hT⟩:∃ T,T=bgT (tg a.st (C.c i)):=⟨_,rfl⟩
 have eA:ssA a (ig s.lk.cs i) C.t (bgT (tg s.st i))=a.setSt (C.c i) T:=by
  unfold ssA
  rw [if_pos hsl,elk,et,hT]
  rfl
 have ha:Ai15 C (a.setSt (C.c i) T) C.cs.length (i+1) 0:=by
  rw [hT]
  exact ka2.str (c3 hi) hb.2.2.1 (hsq.2 _ hb.2.2.2.1)
 have eK:(2*(slF (a.setSt (C.c i) T).sl.length s.lk.cs:Int))=2*(C.K:Int):=by rw [ha.sl,elk];rfl
 have hwr:wi (bgT (tg s.st i)).sq 0 1099511627776=true/\wi (bgT (tg s.st i)).ep 0 1099511627776=true/\wi (bgT (tg s.st i)).rd 0 1099511627776=true/\wi (bgT (tg s.st i)).ls 0 1099511627776=true:=by rw [et];exact hb.2.2.2.2
 have etT:bgT (tg s.st i)=T:=by rw [et,hT]
 have hstn:∀ j,0<=j->j<i+1->tg (s.st.set i T) j=tg (a.setSt (C.c i) T).st (C.c j):=fun j _ hj=>by
  show tg (s.st.set i T) j=tg (a.st.set (C.c i) T) (C.c j)
  rw [tg_set (by omega),tg_set (by rw [ka2.st];exact c3 hi)]
  by_cases e:i=j
  ·subst e;rw [if_pos rfl,if_pos rfl]
  ·obtain ⟨d1,-,-,-⟩:=hC.at_ (i:=j) (by omega)
   have hne:¬C.c i=C.c j:=fun h=>by
    have h2:=okc_ne hC.hc (i:=j) (j:=i) (by omega) (by omega)
    exact h2 (by rw [c1,d1,h])
   rw [if_neg e,if_neg hne]
   exact ks.st j (Nat.zero_le _) (by show j<(2*i+1+1) / 2;omega)
 by_cases hm:i+1<C.K
 ·have av:=avP_in (N:=(a.setSt (C.c i) T).sl.length) (s:={ s with st:=s.st.set i T }) (ph:=2) (k:=2*(C.K:Int)) (by show s.at_+1<_;rw [eat];omega)
  have kc:=ust_marko (n:=n) (t:=C.t) w har hse ka.fw (ks.smc hC) ks.ph i eat (by rw [elk];omega) (by omega) hb0 hwr hsl (by rw [eA,etT,eK];exact av.2)
  rw [eA,etT,eK,av.1] at kc
  refine .inl ⟨hm,_,_,⟨?_,?_⟩,kc⟩
  ·show Ai15 C _ C.cs.length (2*(i+1) / 2) 0
   rw [show 2*(i+1) / 2=i+1 by omega];exact ha
  ·refine ⟨ks.ph,?_,ks.lk,ks.sn,ks.sl,ks.sh,ks.dl,?_,fun j h1 h2=>?_,ks.dir,ks.lim,ks.ca,ks.o,⟨ks.w.1,ks.w.2.1,ks.w.2.2.1,by show (2*(i+1)+1) / 2<=9;omega⟩⟩
   ·show s.at_+1=((2*(i+1):Nat):Int);rw [eat];omega
   ·show (s.st.set i T).length=(2*(i+1)+1) / 2
    rw [List.length_set,estl];omega
   ·exact hstn j (Nat.zero_le _) (by have:j<(2*(i+1)+1) / 2:=h2;omega)
 ·have hm2:i+1=C.K:=by omega
  have av:=avP_end (N:=(a.setSt (C.c i) T).sl.length) (s:={ s with st:=s.st.set i T }) (ph:=2) (k:=2*(C.K:Int)) (by show ¬s.at_+1<_;rw [eat];omega)
  have e2:=enp_ntr (N:=(a.setSt (C.c i) T).sl.length) (s:={ { s with st:=s.st.set i T } with at_:=s.at_+1 }) (eph_self (emB_not (ph:=2) (by decide) (.inl (by decide)))) (by decide)
  have kc:=ust_marko (n:=n) (t:=C.t) w har hse ka.fw (ks.smc hC) ks.ph i eat (by rw [elk];omega) (by omega) hb0 hwr hsl (by rw [eA,etT,eK];exact av.2.trans e2.2)
  rw [eA,etT,eK,av.1,e2.1] at kc
  refine .inr ⟨hm2,_,_,⟨?_,?_⟩,kc⟩
  ·show Ai15 C _ C.cs.length C.K 0
   rw [<-hm2];exact ha
  ·refine ⟨rfl,rfl,ks.lk,ks.sn,ks.sl,ks.sh,ks.dl,?_,fun j h1 h2=>?_,ks.dir,ks.lim,ks.ca,ks.o,⟨ks.w.1,ks.w.2.1,ks.w.2.2.1,by show C.K<=9;omega⟩⟩
   ·show (s.st.set i T).length=C.K
    rw [List.length_set,estl,hm2]
   ·exact hstn j (Nat.zero_le _) (by have:j<C.K:=h2;omega)
end
end Go.Proofs.YtkecnihgjepfeaaGreat
/- Plain: the steps of a section that is alone: load, snapshot, store, unmark, free; its decision. -/
namespace Go.Proofs.YtkecnihgjepfeaaGreat
open Go.RowKit
set_option linter.unusedVariables false
set_option linter.unusedSimpArgs false
set_option maxHeartbeats 8000000
set_option maxRecDepth 20000
section
variable {C:Cx15} {a:Ar} {Y:Ax} {s:Se} {X:Sex} {n:Int} {w:World}
theorem hx_load (hC:C.Ok) {i:Nat} (k:Hx15 C (pD15 C i) a s) (hi:i<C.cs.length) (har:AR w w.heap.size a Y) (hse:SeR w w.heap.size s X) :
  (i+1<C.cs.length/\Nx15 C (pD15 C (i+1)) a Y s X n w)\/(i+1=C.cs.length/\Nx15 C (pN15 C 0) a Y s X n w):=by
 obtain ⟨ka,ks⟩:=k
 have hl:=hC.l
 have hkl:=hC.kl
 obtain ⟨c1,c2,c3,c4⟩:=hC.at_ hi
 have elk:s.lk.cs=C.cs:=by rw [ks.lk]
 have eat:s.at_=(i:Int):=ks.at_
 have esl:s.sh.length=min i C.K:=ks.sl
 have esh:∀ j,j<min i C.K->sgS s.sh j=(og C.A.sl (C.c j)).sh:=ks.sh
 have eml:(s.lk.cs.length:Int)=(C.cs.length:Int):=by rw [elk]
 have hka:Ai15 C a C.cs.length C.K 0:=ka
 -- what a step gives, whatever was loaded
 have key:∀ s2:Se,s2.ph=2->s2.at_=(i:Int)->s2.lk=s.lk->s2.sn=s.sn->s2.sh.length=min (i+1) C.K->(∀ j,j<min (i+1) C.K->sgS s2.sh j=(og C.A.sl (C.c j)).sh)->((s2.dl=[]\/s2.dl=C.A.dl)/\(C.K<i+1->s2.dc=C.A.cap/\s2.dl=C.A.dl))->s2.st=s.st->s2.dir=s.dir->s2.lim=s.lim->s2.ca=s.ca->s2.o=s.o->
   avE a.sl.length s2 (s.lk.cs.length:Int) 3=0->Calls Tryz.prog 13 #[av a Y,sev s X,.int .i64 C.t,.int .i64 n] w (SE15n w a (avP a.sl.length s2 (s.lk.cs.length:Int) 3) 0)->
   (i+1<C.cs.length/\Nx15 C (pD15 C (i+1)) a Y s X n w)\/(i+1=C.cs.length/\Nx15 C (pN15 C 0) a Y s X n w):=by
  intro s2 b1 b2 b3 b4 b5 b6 b7 b8 b9 b10 b11 b12 b13 kc
  rw [eml] at kc
  by_cases hm:i+1<C.cs.length
  ·have av:=avP_in (N:=a.sl.length) (s:=s2) (ph:=3) (k:=(C.cs.length:Int)) (by rw [b2];omega)
   rw [av.1] at kc
   refine .inl ⟨hm,_,_,⟨hka,?_⟩,kc⟩
   exact ⟨b1,by show s2.at_+1=((i+1:Nat):Int);rw [b2];omega,b3.trans ks.lk,by show s2.sn.ph=_/\_;rw [b4];exact ks.sn,b5,b6,b7,by show s2.st.length=_;rw [b8];exact ks.stl,by show ∀ j,_->_->tg s2.st j=_;rw [b8];exact ks.st,b9.trans ks.dir,b10.trans ks.lim,b11.trans ks.ca,b12.trans ks.o,ks.w⟩
  ·have hm2:i+1=C.cs.length:=by omega
   have av:=avP_end (N:=a.sl.length) (s:=s2) (ph:=3) (k:=(C.cs.length:Int)) (by rw [b2];omega)
   have e2:=enp_ntr (N:=a.sl.length) (s:={ s2 with at_:=s2.at_+1 }) (eph_self (emB_not (ph:=3) (by decide) (.inl (by decide)))) (by decide)
   rw [av.1,e2.1] at kc
   rw [hm2] at b5 b6 b7
   refine .inr ⟨hm2,_,_,⟨hka,?_⟩,kc⟩
   exact ⟨rfl,rfl,b3.trans ks.lk,by show s2.sn.ph=_/\_;rw [b4];exact ks.sn,b5,b6,b7,by show s2.st.length=_;rw [b8];exact ks.stl,by show ∀ j,_->_->tg s2.st j=_;rw [b8];exact ks.st,b9.trans ks.dir,b10.trans ks.lim,b11.trans ks.ca,b12.trans ks.o,ks.w⟩
 have h0:∀ s2:Se,s2.at_=(i:Int)->avE a.sl.length s2 (s.lk.cs.length:Int) 3=0:=by
  intro s2 b2
  rw [eml]
  by_cases hm:i+1<C.cs.length
  ·exact (avP_in (N:=a.sl.length) (s:=s2) (ph:=3) (k:=(C.cs.length:Int)) (by rw [b2];omega)).2
  ·exact (avP_end (N:=a.sl.length) (s:=s2) (ph:=3) (k:=(C.cs.length:Int)) (by rw [b2];omega)).2.trans (enp_ntr (N:=a.sl.length) (s:={ s2 with at_:=s2.at_+1 }) (eph_self (emB_not (ph:=3) (by decide) (.inl (by decide)))) (by decide)).2
 by_cases hk:i<C.K
 ·have kc:=ust_loads (n:=n) (t:=C.t) w har hse ka.fw (ks.smc hC) ks.ph i (C.c i) eat (by rw [elk];exact hi) (by rw [elk];exact c1) (ka.isl (c3 hk)) (h0 { s with sh:=s.sh++[(og a.sl (C.c i)).sh] } eat)
  refine key { s with sh:=s.sh++[(og a.sl (C.c i)).sh] } ks.ph eat rfl rfl ?_ (fun j hj=>?_) ⟨ks.dl.1,fun h=>absurd h (by omega)⟩ rfl rfl rfl rfl rfl (h0 _ eat) kc
  ·show (s.sh++[(og a.sl (C.c i)).sh]).length=_
   rw [List.length_append,esl]
   show min i C.K+1=_
   omega
  ·show sgS (s.sh++[(og a.sl (C.c i)).sh]) j=_
   by_cases hj2:j<i
   ·have e3:sgS (s.sh++[(og a.sl (C.c i)).sh]) j=sgS s.sh j:=by
     unfold sgS
     have:j<s.sh.length:=by omega
     simp [List.getD,List.getElem?_append,this]
    rw [e3]
    exact esh j (by omega)
   ·obtain rfl:j=i:=by omega
    have e4:s.sh.length=j:=by omega
    have e3:sgS (s.sh++[(og a.sl (C.c j)).sh]) j=(og a.sl (C.c j)).sh:=by
     unfold sgS
     simp [List.getD,List.getElem?_append,e4]
    rw [e3]
    exact ka.sh _ (c3 hk)
 ·have hcN:ig C.cs i=(a.sl.length:Int):=by rw [c1,c4 hk,ka.sl]
  have kc:=ust_loadd (n:=n) (t:=C.t) w har hse ka.fw (ks.smc hC) ks.ph i eat (by rw [elk];exact hi) (by rw [elk];exact hcN) (h0 { s with dc:=a.cap,dl:=a.dl } eat)
  refine key { s with dc:=a.cap,dl:=a.dl } ks.ph eat rfl rfl ?_ (fun j hj=>esh j (by omega)) ⟨.inr ka.dl,fun _=>⟨ka.cap,ka.dl⟩⟩ rfl rfl rfl rfl rfl (h0 _ eat) kc
  show s.sh.length=_
  rw [esl]
  omega
theorem hx_snap (hC:C.Ok) {q:Nat} (k:Hx15 C (pN15 C q) a s) (hq:q<3) (har:AR w w.heap.size a Y) (hse:SeR w w.heap.size s X) :
  (q+1<3/\Nx15 C (pN15 C (q+1)) a Y s X n w)\/(q+1=3/\Nx15 C (pE15 C) a Y s X n w):=by
 obtain ⟨ka,ks⟩:=k
 have esn:s.sn.ph=(q:Int):=ks.sn.1
 have hE:nsE s.sn=0:=by
  unfold nsE
  rw [esn,if_pos (by omega)]
 have kc:=ust_snap (n:=n) (t:=C.t) w har hse ka.fw (ks.smc hC) ks.ph hE
 have key:∀ x:Sn,nsN a.ep a.ck s.sn n=x->x.ph=((q+1:Nat):Int)->x.ep=C.A.ep->(q+1<3/\Nx15 C (pN15 C (q+1)) a Y s X n w)\/(q+1=3/\Nx15 C (pE15 C) a Y s X n w):=by
  intro x hx h1 h2
  unfold spP at kc
  rw [hx] at kc
  by_cases hm:q+1<3
  ·rw [if_neg (by omega)] at kc
   refine .inl ⟨hm,_,_,⟨ka,?_⟩,kc⟩
   exact ⟨ks.ph,ks.at_,ks.lk,⟨h1,fun _=>h2⟩,ks.sl,ks.sh,ks.dl,ks.stl,ks.st,ks.dir,ks.lim,ks.ca,ks.o,ks.w⟩
  ·have hm2:q+1=3:=by omega
   have e2:=enp_ntr (N:=a.sl.length) (s:={ s with sn:=x }) (eph_self (emB_not (ph:=4) (by decide) (.inl (by decide)))) (by decide)
   rw [if_pos (by omega),e2.1] at kc
   refine .inr ⟨hm2,_,_,⟨ka,?_⟩,kc⟩
   exact ⟨rfl,rfl,ks.lk,⟨by show x.ph=((3:Nat):Int);rw [h1,hm2],fun _=>h2⟩,ks.sl,ks.sh,ks.dl,ks.stl,ks.st,ks.dir,ks.lim,ks.ca,ks.o,ks.w⟩
 have hep:1<=q->s.sn.ep=C.A.ep:=ks.sn.2
 match q,hq,esn,key,hep with
 | 0,_,esn,key,_=>
  have e:nsN a.ep a.ck s.sn n=bgN s.sn a.ep:=by unfold nsN;rw [show s.sn.ph=0 from esn,if_pos rfl]
  exact key _ e rfl ka.ep
 | 1,_,esn,key,hep=>
  have e:nsN a.ep a.ck s.sn n=stN s.sn a.ck n:=by unfold nsN;rw [show s.sn.ph=1 from esn,if_neg (by decide),if_pos rfl]
  exact key _ e rfl (hep (nLR _))
 | 2,_,esn,key,hep=>
  have h3:=hep (by decide)
  have e:nsN a.ep a.ck s.sn n=⟨3,s.sn.ep,s.sn.ck,s.sn.sp⟩:=by unfold nsN cmN;rw [show s.sn.ph=2 from esn,if_neg (by decide),if_neg (by decide),if_pos rfl,if_pos (by rw [h3];exact ka.ep)]
  exact key _ e rfl h3
structure Od15 (C:Cx15) (od:List Int) (oc:List Msg):Prop where
 l:od.length<=C.cs.length
 c:oc.length<=9
 r:∀ i,i<od.length->(0<=ig od i/\ig od i<C.cs.length)/\¬ig od i∈od.take i
theorem hx_enter (hC:C.Ok) {s2:Se} {od:List Int} {oc:List Msg} {sp:Nat} (h7:s2.sh.length=C.K) (hl:s2.lk=⟨C.cs,3,(C.cs.length:Int),0,0⟩) (N:Nat) {ph:Int} (hph:(0<C.K->ephF N s2 ph=7)/\(C.K=0->ephF N s2 ph=8)) :
  (0<C.K/\enP N s2 ph=s2.ntr 7/\ntE N s2 ph=0)\/(C.K=0/\enP N s2 ph=(s2.lkd ⟨C.cs,4,(C.cs.length:Int),0,0⟩).ntr 8/\ntE N s2 ph=0):=by
 by_cases hK:C.K=0
 ·have e:=enp_free (hph.2 hK) (by rw [hl])
  rw [hl] at e
  exact .inr ⟨hK,e⟩
 ·exact .inl ⟨Nat.pos_of_ne_zero hK,enp_ntr (hph.1 (Nat.pos_of_ne_zero hK)) (by decide)⟩
theorem hx_store (hC:C.Ok) {od:List Int} {oc:List Msg} (hod:Od15 C od oc) {i:Nat} (k:Hx15 C (pS15 C od oc i) a s) (hi:i<od.length) (har:AR w w.heap.size a Y) (hse:SeR w w.heap.size s X) :
  (i+1<od.length/\Nx15 C (pS15 C od oc (i+1)) a Y s X n w)\/(i+1=od.length/\0<C.K/\Nx15 C (pU15 C od oc 0) a Y s X n w)\/(i+1=od.length/\C.K=0/\Nx15 C (pF15 C od oc C.cs.length) a Y s X n w):=by
 obtain ⟨ka,ks⟩:=k
 have hl:=hC.l
 have hkl:=hC.kl
 have elk:s.lk.cs=C.cs:=by rw [ks.lk]
 have eat:s.at_=(i:Int):=ks.at_
 have hka:Ai15 C a C.cs.length C.K 0:=ka
 have eo:s.o=⟨s.sh,s.dc,s.dl,od,oc,[]⟩:=ks.o
 have eod:s.o.od=od:=by rw [eo]
 have eoc:s.o.ca=oc:=by rw [eo]
 have eos:s.o.sh=s.sh:=by rw [eo]
 have eol:(s.o.od.length:Int)=(od.length:Int):=by rw [eod]
 have esl:s.sh.length=C.K:=by rw [ks.sl];show min C.cs.length C.K=C.K;omega
 obtain ⟨⟨r0,r1⟩,-⟩:=hod.r i hi
 obtain ⟨kk,hkk⟩:∃ kk:Nat,ig od i=(kk:Int):=⟨(ig od i).toNat,by omega⟩
 have hkm:kk<C.cs.length:=by omega
 obtain ⟨c1,c2,c3,c4⟩:=hC.at_ hkm
 have eca:soC s=if i+1=od.length then [] else oc:=by
  unfold soC
  rw [eat,eol,eoc]
  by_cases h:i+1=od.length
  ·rw [if_pos (by omega),if_pos h]
  ·rw [if_neg (by omega),if_neg h]
 -- what the step gives
 have h0:avE a.sl.length { s with ca:=soC s } (s.o.od.length:Int) 6=0/\(Calls Tryz.prog 13 #[av a Y,sev s X,.int .i64 C.t,.int .i64 n] w (SE15n w a (avP a.sl.length { s with ca:=soC s } (s.o.od.length:Int) 6) 0)->
   (i+1<od.length/\Nx15 C (pS15 C od oc (i+1)) a Y s X n w)\/(i+1=od.length/\0<C.K/\Nx15 C (pU15 C od oc 0) a Y s X n w)\/(i+1=od.length/\C.K=0/\Nx15 C (pF15 C od oc C.cs.length) a Y s X n w)):=by
  rw [eol,eca]
  by_cases hm:i+1<od.length
  ·rw [if_neg (by omega)]
   have av:=avP_in (N:=a.sl.length) (s:={ s with ca:=oc }) (ph:=6) (k:=(od.length:Int)) (by show s.at_+1<_;rw [eat];omega)
   refine ⟨av.2,fun kc=>?_⟩
   rw [av.1] at kc
   refine .inl ⟨hm,_,_,⟨hka,?_⟩,kc⟩
   exact ⟨ks.ph,by show s.at_+1=((i+1:Nat):Int);rw [eat];omega,ks.lk,ks.sn,ks.sl,ks.sh,ks.dl,ks.stl,ks.st,ks.dir,ks.lim,(by show oc=if i+1=0 then [] else oc;rw [if_neg (show ¬i+1=0 by omega)]),ks.o,⟨ks.w.1,ks.w.2.1,by show (if i+1=0 then [] else oc).length<=9;rw [if_neg (by omega)];exact hod.c,ks.w.2.2.2⟩⟩
  ·have hm2:i+1=od.length:=by omega
   rw [if_pos hm2]
   have av:=avP_end (N:=a.sl.length) (s:={ s with ca:=[] }) (ph:=6) (k:=(od.length:Int)) (by show ¬s.at_+1<_;rw [eat];omega)
   have h6:emB a.sl.length { { s with ca:=[] } with at_:=s.at_+1 } 6=true:=by
    rw [emB_6]
    have:s.o.ed=[]:=by rw [eo]
    show decide (s.o.ed.length=0)=true
    rw [this];rfl
   have hen:=hx_enter (od:=od) (oc:=oc) (sp:=0) hC (s2:={ { s with ca:=[] } with at_:=s.at_+1 }) esl ks.lk a.sl.length (ph:=6) ⟨fun hK=>eph_one h6 (by rw [show (6:Int)+1=7 by rfl,emB_7];exact decide_eq_false (by show ¬s.sh.length=0;omega)),fun hK=>eph_two h6 (by rw [show (6:Int)+1=7 by rfl,emB_7];exact decide_eq_true (by show s.sh.length=0;omega)) (emB_not (ph:=8) (by decide) (.inr (by decide)))⟩
   rcases hen with ⟨hK,e1,e2⟩ | ⟨hK,e1,e2⟩
   ·refine ⟨av.2.trans e2,fun kc=>?_⟩
    rw [av.1,e1] at kc
    refine .inr (.inl ⟨hm2,hK,_,_,⟨hka,?_⟩,kc⟩)
    exact ⟨rfl,rfl,ks.lk,ks.sn,ks.sl,ks.sh,ks.dl,ks.stl,ks.st,ks.dir,ks.lim,rfl,ks.o,⟨ks.w.1,ks.w.2.1,Nat.zero_le _,ks.w.2.2.2⟩⟩
   ·refine ⟨av.2.trans e2,fun kc=>?_⟩
    rw [av.1,e1] at kc
    refine .inr (.inr ⟨hm2,hK,_,_,⟨?_,?_⟩,kc⟩)
    ·show Ai15 C a C.cs.length C.K C.K
     have:Ai15 C a C.cs.length C.K 0:=hka
     rw [hK] at this ⊢
     exact this
    ·exact ⟨rfl,rfl,rfl,ks.sn,ks.sl,ks.sh,ks.dl,ks.stl,fun j h1 h2=>absurd h2 (by show ¬j<C.K;omega),ks.dir,ks.lim,rfl,ks.o,⟨ks.w.1,ks.w.2.1,Nat.zero_le _,ks.w.2.2.2⟩⟩
 by_cases hk:kk<C.K
 ·have eS:sgS s.o.sh kk=(og a.sl (C.c kk)).sh:=by
   rw [eos,ks.sh kk (by show kk<min C.cs.length C.K;omega),ka.sh _ (c3 hk)]
  have hs2:=hC.hl _ (c3 hk)
  rw [<-ka.sh _ (c3 hk)] at hs2
  have kc:=ust_stores (n:=n) (t:=C.t) w har hse ka.fw (ks.smc hC) ks.ph i kk (C.c kk) eat (by rw [eod];exact hi) (by rw [eod];exact hkk) (by rw [elk];exact hkm) (by rw [elk];exact c1) (by rw [eos,esl];exact hk) (by rw [<-c1];exact hka.sle hC hk) (by rw [eS,ka.sh _ (c3 hk)];exact hC.sh _ (c3 hk)) (by rw [eS]) (by rw [eS];exact hs2) (by rw [eS,setSh_same];exact h0.1)
  rw [eS,setSh_same] at kc
  exact h0.2 kc
 ·have edl:=ks.dl.2 (show C.K<C.cs.length by omega)
  have eD:s.o.dl=a.dl:=by rw [eo,ka.dl];exact edl.2
  have kc:=ust_stored (n:=n) (t:=C.t) w har hse ka.fw (ks.smc hC) ks.ph i kk (C.c kk) eat (by rw [eod];exact hi) (by rw [eod];exact hkk) (by rw [elk];exact hkm) (by rw [elk];exact c1) (by rw [c4 hk,ka.sl]) (hka.owe hC hkm hk) (by rw [eo];show va8 s.dc s.dl=0;rw [edl.1,edl.2];exact hC.dl.1) (by rw [eo,ka.cap];exact edl.1) (by rw [eD];exact h0.1)
  rw [eD] at kc
  exact h0.2 kc
theorem hx_unmark (hC:C.Ok) {od:List Int} {oc:List Msg} {i:Nat} (k:Hx15 C (pU15 C od oc i) a s) (hi:i<C.K) (har:AR w w.heap.size a Y) (hse:SeR w w.heap.size s X) :
  (i+1<C.K/\Nx15 C (pU15 C od oc (i+1)) a Y s X n w)\/(i+1=C.K/\Nx15 C (pF15 C od oc C.cs.length) a Y s X n w):=by
 obtain ⟨ka,ks⟩:=k
 have hl:=hC.l
 have hkl:=hC.kl
 obtain ⟨c1,c2,c3,-⟩:=hC.at_ (i:=i) (by omega)
 have elk:s.lk.cs=C.cs:=by rw [ks.lk]
 have eat:s.at_=(i:Int):=ks.at_
 have hka:Ai15 C a C.cs.length C.K i:=ka
 have eo:s.o=⟨s.sh,s.dc,s.dl,od,oc,[]⟩:=ks.o
 have eos:s.o.sh=s.sh:=by rw [eo]
 have esl:s.sh.length=C.K:=by rw [ks.sl];show min C.cs.length C.K=C.K;omega
 have estl:s.st.length=C.K:=ks.stl
 have eS:nwS15s s i=(og C.A.sl (C.c i)).sh:=by
  have e1:sgS s.sh i=(og C.A.sl (C.c i)).sh:=ks.sh i (by show i<min C.cs.length C.K;omega)
  unfold nwS15s
  rw [eos]
  split <;> exact e1
 have et:tg s.st i=tg a.st (C.c i):=ks.st i (nLR _) hi
 have hsq:=Sq15.unmark hC.hc hka.st hi hkl (c3 hi) hka.sq
 have eep:s.sn.ep=C.A.ep:=ks.sn.2 (by show 1<=3;decide)
 have elim:s.lim=C.lim:=ks.lim
 have hh:=hC.hl _ (c3 hi)
 have hb:=en_st (u:=tg a.st (C.c i)) (H:=(og C.A.sl (C.c i)).sh) (ep:=C.A.ep) (lim:=C.lim) hsq.1 (hC.sh _ (c3 hi)) ⟨hh.1,hh.2.1⟩ hC.ep hC.lim
 have hsl:slE a (ig s.lk.cs i) C.t=0:=by rw [elk];exact hka.sle hC hi
 obtain ⟨T,hT⟩:∃ T,T=enT (tg a.st (C.c i)) (og C.A.sl (C.c i)).sh C.A.ep C.lim:=⟨_,rfl⟩
 have eT:enT (tg s.st i) (nwS15s s i) s.sn.ep s.lim=T:=by rw [et,eS,eep,elim,hT]
 have eA:ssA a (ig s.lk.cs i) C.t (enT (tg s.st i) (nwS15s s i) s.sn.ep s.lim)=a.setSt (C.c i) T:=by
  unfold ssA
  rw [if_pos hsl,elk,eT]
  rfl
 have ha:Ai15 C (a.setSt (C.c i) T) C.cs.length C.K (i+1):=by
  rw [hT]
  exact hka.str (c3 hi) hb.2.2.1 (hsq.2 _ hb.2.1)
 have hE:enE (tg s.st i) (nwS15s s i) s.sn.ep s.lim=0:=by rw [et,eS,eep,elim];exact hb.1
 have hwr:wi (enT (tg s.st i) (nwS15s s i) s.sn.ep s.lim).sq 0 1099511627776=true/\wi (enT (tg s.st i) (nwS15s s i) s.sn.ep s.lim).ep 0 1099511627776=true/\wi (enT (tg s.st i) (nwS15s s i) s.sn.ep s.lim).rd 0 1099511627776=true/\wi (enT (tg s.st i) (nwS15s s i) s.sn.ep s.lim).ls 0 1099511627776=true:=by rw [et,eS,eep,elim];exact hb.2.2.2
 have esh:(s.sh.length:Int)=(C.K:Int):=by rw [esl]
 have hstn:∀ j,i+1<=j->j<C.K->tg s.st j=tg (a.setSt (C.c i) T).st (C.c j):=fun j hj hj2=>by
  show tg s.st j=tg (a.st.set (C.c i) T) (C.c j)
  obtain ⟨d1,-,-,-⟩:=hC.at_ (i:=j) (by omega)
  have hne:¬C.c i=C.c j:=fun h=>by
   have h2:=okc_ne hC.hc (i:=i) (j:=j) (by omega) (by omega)
   exact h2 (by rw [c1,d1,h])
  rw [tg_set (by rw [hka.st];exact c3 hi),if_neg hne]
  exact ks.st j (by show i<=j;omega) hj2
 by_cases hm:i+1<C.K
 ·have av:=avP_in (N:=(a.setSt (C.c i) T).sl.length) (s:=s) (ph:=8) (k:=(C.K:Int)) (by rw [eat];omega)
  have kc:=ust_unmark (n:=n) (t:=C.t) w har hse ka.fw (ks.smc hC) ks.ph i eat (by rw [estl];exact hi) (by rw [elk];omega) (by rw [esl];exact hi) (by rw [eos,esl];exact hi) hE hwr hsl (by rw [eA,esh];exact av.2)
  rw [eA,esh,av.1] at kc
  refine .inl ⟨hm,_,_,⟨ha,?_⟩,kc⟩
  exact ⟨ks.ph,by show s.at_+1=((i+1:Nat):Int);rw [eat];omega,ks.lk,ks.sn,ks.sl,ks.sh,ks.dl,ks.stl,hstn,ks.dir,ks.lim,ks.ca,ks.o,ks.w⟩
 ·have hm2:i+1=C.K:=by omega
  have av:=avP_end (N:=(a.setSt (C.c i) T).sl.length) (s:=s) (ph:=8) (k:=(C.K:Int)) (by rw [eat];omega)
  have e2:=enp_free (N:=(a.setSt (C.c i) T).sl.length) (s:={ s with at_:=s.at_+1 }) (eph_self (emB_not (ph:=8) (by decide) (.inr (by decide)))) (by show s.lk.ph=3;rw [ks.lk];rfl)
  have kc:=ust_unmark (n:=n) (t:=C.t) w har hse ka.fw (ks.smc hC) ks.ph i eat (by rw [estl];exact hi) (by rw [elk];omega) (by rw [esl];exact hi) (by rw [eos,esl];exact hi) hE hwr hsl (by rw [eA,esh];exact av.2.trans e2.2)
  rw [eA,esh,av.1,e2.1] at kc
  refine .inr ⟨hm2,_,_,⟨?_,?_⟩,kc⟩
  ·show Ai15 C _ C.cs.length C.K C.K
   rw [hm2] at ha
   exact ha
  ·refine ⟨rfl,rfl,?_,ks.sn,ks.sl,ks.sh,ks.dl,ks.stl,fun j h1 h2=>absurd h2 (by show ¬j<C.K;have:C.K<=j:=h1;omega),ks.dir,ks.lim,ks.ca,ks.o,ks.w⟩
   show (⟨s.lk.cs,4,s.lk.hv,s.lk.tr,s.lk.wt⟩:Lk)=⟨C.cs,4,(C.cs.length:Int),0,0⟩
   rw [ks.lk]
   rfl
theorem hx_free (hC:C.Ok) {od:List Int} {oc:List Msg} {h:Nat} (k:Hx15 C (pF15 C od oc (h+1)) a s) (hh:h<C.cs.length) (har:AR w w.heap.size a Y) (hse:SeR w w.heap.size s X) :
  (0<h/\Nx15 C (pF15 C od oc h) a Y s X n w)\/(h=0/\Nx15 C (pZ15 C od oc) a Y s X n w):=by
 obtain ⟨ka,ks⟩:=k
 have hl:=hC.l
 have elk:s.lk=⟨C.cs,4,(h:Int)+1,0,0⟩:=by rw [ks.lk];show (⟨C.cs,4,((h+1:Nat):Int),0,0⟩:Lk)=_;rw [Int.natCast_add];rfl
 obtain ⟨g1,g2,g3,g4⟩:=ow_free hC.hc (show 1<=C.t from hC.t.1) (by have:=hC.t.2;omega) ka.sl hh ka.ow
 rw [<-elk] at g1 g2 g3
 have ha:=ka.own_ g4
 have hA:slA a s C.t=a.setOwn (ig C.cs h).toNat 0:=g2
 by_cases h0:h=0
 ·rw [if_pos h0] at g3
  have eN:(stA13 a s.lk C.t).sl.length=C.N:=by rw [g2];exact ha.sl
  have e2:=enp_ntr (N:=C.N) (s:=s.lkd ⟨C.cs,5,(h:Int),0,0⟩) (eph_self (emB_not (ph:=9) (by decide) (.inr (by decide)))) (by decide)
  have hP0:slP a s C.t 5 9=(s.lkd ⟨C.cs,5,(h:Int),0,0⟩).ntr 9:=by unfold slP;rw [g3,eN,<-e2.1];exact if_pos rfl
  have hE0:slE15 a s C.t 5 9=0:=by unfold slE15;rw [g3,eN,<-e2.2];exact if_pos rfl
  have kc:=ust_free (n:=n) w har hse ka.fw (ks.smc hC) ks.ph (ks.lsm hC (show h+1<=_ by omega)) (by rw [g3];show C.cs.length<=9;omega) g1 hE0
  rw [hA,hP0] at kc
  refine .inr ⟨h0,_,_,⟨?_,?_⟩,kc⟩
  ·have:Ai15 C (a.setOwn (ig C.cs h).toNat 0) h C.K C.K:=ha
   rw [h0] at this ⊢
   exact this
  ·exact ⟨rfl,rfl,by show (⟨C.cs,5,(h:Int),0,0⟩:Lk)=⟨C.cs,5,((0:Nat):Int),0,0⟩;rw [h0],ks.sn,ks.sl,ks.sh,ks.dl,ks.stl,fun j h1 h2=>absurd h2 (by show ¬j<C.K;have:C.K<=j:=h1;omega),ks.dir,ks.lim,ks.ca,ks.o,ks.w⟩
 ·rw [if_neg h0] at g3
  have hP:slP a s C.t 5 9=s.lkd ⟨C.cs,4,(h:Int),0,0⟩:=by unfold slP;rw [g3];exact if_neg (show ¬(4:Int)=5 by decide)
  have h1:slE15 a s C.t 5 9=0:=by unfold slE15;rw [g3];exact if_neg (show ¬(4:Int)=5 by decide)
  have kc:=ust_free (n:=n) w har hse ka.fw (ks.smc hC) ks.ph (ks.lsm hC (show h+1<=_ by omega)) (by rw [g3];show C.cs.length<=9;omega) g1 h1
  rw [hA,hP] at kc
  refine .inl ⟨by omega,_,_,⟨ha,?_⟩,kc⟩
  exact ⟨ks.ph,ks.at_,rfl,ks.sn,ks.sl,ks.sh,ks.dl,ks.stl,fun j h1 h2=>absurd h2 (by show ¬j<C.K;have:C.K<=j:=h1;omega),ks.dir,ks.lim,ks.ca,ks.o,ks.w⟩
end
end Go.Proofs.YtkecnihgjepfeaaGreat
/- Plain: a section that is alone: its decision, the next step whatever the phase, how many steps are left. -/
namespace Go.Proofs.YtkecnihgjepfeaaGreat
open Go.RowKit
set_option linter.unusedVariables false
set_option linter.unusedSimpArgs false
set_option maxHeartbeats 8000000
set_option maxRecDepth 20000
inductive Rk15 (C:Cx15):Px15->Nat->Prop
 | lk {h:Nat} (hh:h<C.cs.length):Rk15 C (pL15 h) ((C.cs.length - h)+(2*C.K+(C.cs.length+(3+(1+C.cs.length+(C.K+C.cs.length))))))
 | mk {j:Nat} (hj:j<2*C.K):Rk15 C (pM15 C j) ((2*C.K - j)+(C.cs.length+(3+(1+C.cs.length+(C.K+C.cs.length)))))
 | ld {i:Nat} (hi:i<C.cs.length):Rk15 C (pD15 C i) ((C.cs.length - i)+(3+(1+C.cs.length+(C.K+C.cs.length))))
 | sn {q:Nat} (hq:q<3):Rk15 C (pN15 C q) ((3 - q)+(1+C.cs.length+(C.K+C.cs.length)))
 | de:Rk15 C (pE15 C) (1+C.cs.length+(C.K+C.cs.length))
 | so {od:List Int} {oc:List Msg} {i:Nat} (ho:Od15 C od oc) (hi:i<od.length):Rk15 C (pS15 C od oc i) ((od.length - i)+(C.K+C.cs.length))
 | un {od:List Int} {oc:List Msg} {i:Nat} (hi:i<C.K):Rk15 C (pU15 C od oc i) ((C.K - i)+C.cs.length)
 | fr {od:List Int} {oc:List Msg} {h:Nat} (hh:h<C.cs.length):Rk15 C (pF15 C od oc (h+1)) (h+1)
 | dn {od:List Int} {oc:List Msg}:Rk15 C (pZ15 C od oc) 0
def Same15 (p p' : Px15):Prop:=(p.dc=false->p'.dc=false)/\(p.dc=true->p'.dc=true/\p'.od=p.od/\p'.oc=p.oc)
section
variable {C:Cx15} {p:Px15} {r:Nat} {a:Ar} {Y:Ax} {s:Se} {X:Sex} {n:Int} {w:World}
theorem hx_step (hC:C.Ok) (hr:Rk15 C p r) (k:Hx15 C p a s) (h4:p.ph≠4) (h9:p.ph≠9) (har:AR w w.heap.size a Y) (hse:SeR w w.heap.size s X) :
  ∃ p' r',Rk15 C p' r'/\r'+1<=r/\Same15 p p'/\Nx15 C p' a Y s X n w:=by
 have hl:=hC.l
 have hkl:=hC.kl
 have ff:∀ {q q' : Px15},q.dc=false->q'.dc=false->Same15 q q':=fun h1 h2=>⟨fun _=>h2,fun h=>absurd (h1.symm.trans h) (by decide)⟩
 have tt:∀ {q q' : Px15},q.dc=true->q'.dc=true->q'.od=q.od->q'.oc=q.oc->Same15 q q':=fun h1 h2 h3 h4=>⟨fun h=>absurd (h1.symm.trans h) (by decide),fun _=>⟨h2,h3,h4⟩⟩
 cases hr with
 | @lk h hh=>
  rcases hx_lock (n:=n) hC k hh har hse with ⟨e,x⟩ | ⟨e,e2,x⟩ | ⟨e,e2,x⟩
  ·exact ⟨_,_,.lk e,by omega,ff rfl rfl,x⟩
  ·exact ⟨_,_,.mk (by omega),by omega,ff rfl rfl,x⟩
  ·exact ⟨_,_,.ld (by omega),by omega,ff rfl rfl,x⟩
 | @mk j hj=>
  rcases Nat.mod_two_eq_zero_or_one j with e | e
  ·obtain ⟨i,rfl⟩:∃ i,j=2*i:=⟨j / 2,by omega⟩
   have x:=hx_marke (n:=n) hC k (by omega) har hse
   exact ⟨_,_,.mk (by omega),by omega,ff rfl rfl,x⟩
  ·obtain ⟨i,rfl⟩:∃ i,j=2*i+1:=⟨j / 2,by omega⟩
   rcases hx_marko (n:=n) hC k (by omega) har hse with ⟨e,x⟩ | ⟨e,x⟩
   ·exact ⟨_,_,.mk (by omega),by omega,ff rfl rfl,x⟩
   ·exact ⟨_,_,.ld (by omega),by omega,ff rfl rfl,x⟩
 | @ld i hi=>
  rcases hx_load (n:=n) hC k hi har hse with ⟨e,x⟩ | ⟨e,x⟩
  ·exact ⟨_,_,.ld e,by omega,ff rfl rfl,x⟩
  ·exact ⟨_,_,.sn (by omega),by omega,ff rfl rfl,x⟩
 | @sn q hq=>
  rcases hx_snap (n:=n) hC k hq har hse with ⟨e,x⟩ | ⟨e,x⟩
  ·exact ⟨_,_,.sn e,by omega,ff rfl rfl,x⟩
  ·exact ⟨_,_,.de,by omega,ff rfl rfl,x⟩
 | de=>exact absurd rfl h4
 | @so od oc i ho hi=>
  have hol:=ho.l
  rcases hx_store (n:=n) hC ho k hi har hse with ⟨e,x⟩ | ⟨e,e2,x⟩ | ⟨e,e2,x⟩
  ·exact ⟨_,_,.so ho e,by omega,tt rfl rfl rfl rfl,x⟩
  ·exact ⟨_,_,.un e2,by omega,tt rfl rfl rfl rfl,x⟩
  ·obtain ⟨m,hm⟩:∃ m,C.cs.length=m+1:=⟨C.cs.length - 1,by omega⟩
   rw [hm] at x
   exact ⟨_,_,.fr (by omega),by omega,tt rfl rfl rfl rfl,x⟩
 | @un od oc i hi=>
  rcases hx_unmark (n:=n) hC k hi har hse with ⟨e,x⟩ | ⟨e,x⟩
  ·exact ⟨_,_,.un e,by omega,tt rfl rfl rfl rfl,x⟩
  ·obtain ⟨m,hm⟩:∃ m,C.cs.length=m+1:=⟨C.cs.length - 1,by omega⟩
   rw [hm] at x
   exact ⟨_,_,.fr (by omega),by omega,tt rfl rfl rfl rfl,x⟩
 | @fr od oc h hh=>
  rcases hx_free (n:=n) hC k hh har hse with ⟨e,x⟩ | ⟨e,x⟩
  ·obtain ⟨m,hm⟩:∃ m,h=m+1:=⟨h - 1,by omega⟩
   subst hm
   exact ⟨_,_,.fr (h:=m) (by omega),by omega,tt rfl rfl rfl rfl,x⟩
  ·exact ⟨_,_,.dn,by omega,tt rfl rfl rfl rfl,x⟩
 | dn=>exact absurd rfl h9
theorem hx_decide (hC:C.Ok) (k:Hx15 C (pE15 C) a s) {od:List Int} {oc:List Msg} (hod:Od15 C od oc) {Z:Oux} (hse:SeR w w.heap.size s X) (ho:OuR w w.heap.size (⟨s.sh,s.dc,s.dl,od,oc,[]⟩:Ou) Z) :
  ∃ p' r' s',Rk15 C p' r'/\r'+1<=1+C.cs.length+(C.K+C.cs.length)/\(p'.dc=true/\p'.od=od/\p'.oc=oc/\p'.ph≠4/\p'.ph≠9)/\Hx15 C p' a s'/\Calls Tryz.prog 12 #[sev s X,ouv (⟨s.sh,s.dc,s.dl,od,oc,[]⟩:Ou) Z] w (DE15 w s' 0):=by
 obtain ⟨ka,ks⟩:=k
 have hl:=hC.l
 have hkl:=hC.kl
 have hol:=hod.l
 have hoc:=hod.c
 have hsm:=ks.smc hC
 have esl:s.sh.length=C.K:=by rw [ks.sl];show min C.cs.length C.K=C.K;omega
 have elk:s.lk.cs=C.cs:=by rw [ks.lk]
 have hdl:s.dl.length<=1000:=hsm.dl
 have hsmo:SmO (⟨s.sh,s.dc,s.dl,od,oc,[]⟩:Ou):=⟨hsm.sh,hdl,by show od.length<=1000;omega,by show oc.length<=1000;omega,rfl⟩
 obtain ⟨s2,hs2⟩:∃ s2:Se,s2 = { s with o:=(⟨s.sh,s.dc,s.dl,od,oc,[]⟩:Ou) }:=⟨_,rfl⟩
 have kc:=fun hE=>udecide_any s X (⟨s.sh,s.dc,s.dl,od,oc,[]⟩:Ou) Z w hse ho hsm hsmo ks.ph rfl (by show od.length<=9;omega) (fun i hi=>by rw [elk];exact hod.r i hi) hE
 rw [<-hs2] at kc
 have h6:emB 0 s2 6=true:=by rw [emB_6,hs2];rfl
 have h7:emB 0 s2 7=decide (C.K=0):=by rw [emB_7,hs2];show decide (s.sh.length=0)=_;rw [esl]
 have h5:emB 0 s2 5=decide (od.length=0):=by rw [emB_5,hs2]
 have w2:od.length<=9/\oc.length<=9/\([]:List Msg).length<=9/\C.K<=9:=⟨by omega,hoc,by simp,by omega⟩
 by_cases hz:od.length=0
 ·have e5:emB 0 s2 5=true:=by rw [h5];exact decide_eq_true hz
  have hen:=hx_enter (od:=od) (oc:=oc) (sp:=0) hC (s2:=s2) (by rw [hs2];exact esl) (by rw [hs2];exact ks.lk) 0 (ph:=5) ⟨fun hK=>eph_two e5 h6 (by rw [show (5:Int)+2=7 by rfl,h7];exact decide_eq_false (by omega)),fun hK=>eph_three e5 h6 (by rw [show (5:Int)+2=7 by rfl,h7];exact decide_eq_true hK)⟩
  rcases hen with ⟨hK,e1,e2⟩ | ⟨hK,e1,e2⟩
  ·have k2:=kc e2
   rw [e1,hs2] at k2
   refine ⟨pU15 C od oc 0,_,_,.un hK,by omega,⟨rfl,rfl,rfl,show (7:Int)≠4 by decide,show (7:Int)≠9 by decide⟩,⟨ka,?_⟩,k2⟩
   exact ⟨rfl,rfl,ks.lk,ks.sn,ks.sl,ks.sh,ks.dl,ks.stl,ks.st,ks.dir,ks.lim,ks.ca,rfl,w2⟩
  ·have k2:=kc e2
   rw [e1,hs2] at k2
   obtain ⟨m,hm⟩:∃ m,C.cs.length=m+1:=⟨C.cs.length - 1,by omega⟩
   have hr:Rk15 C (pF15 C od oc C.cs.length) C.cs.length:=by
    have:=Rk15.fr (C:=C) (od:=od) (oc:=oc) (h:=m) (by omega)
    rw [<-hm] at this
    exact this
   refine ⟨pF15 C od oc C.cs.length,_,_,hr,by omega,⟨rfl,rfl,rfl,show (8:Int)≠4 by decide,show (8:Int)≠9 by decide⟩,⟨?_,?_⟩,k2⟩
   ·show Ai15 C a C.cs.length C.K C.K
    have:Ai15 C a C.cs.length C.K 0:=ka
    rw [hK] at this ⊢
    exact this
   ·exact ⟨rfl,rfl,rfl,ks.sn,ks.sl,ks.sh,ks.dl,ks.stl,fun j h1 h2=>absurd h2 (by show ¬j<C.K;omega),ks.dir,ks.lim,ks.ca,rfl,w2⟩
 ·have e5:emB 0 s2 5=false:=by rw [h5];exact decide_eq_false hz
  have e2:=enp_ntr (eph_self e5) (by decide)
  have k2:=kc e2.2
  rw [e2.1,hs2] at k2
  refine ⟨pS15 C od oc 0,_,_,.so hod (by omega),by omega,⟨rfl,rfl,rfl,show (5:Int)≠4 by decide,show (5:Int)≠9 by decide⟩,⟨ka,?_⟩,k2⟩
  exact ⟨rfl,rfl,ks.lk,ks.sn,ks.sl,ks.sh,ks.dl,ks.stl,ks.st,ks.dir,ks.lim,ks.ca,rfl,w2⟩
structure Fx15 (C:Cx15) (p:Px15) (r:Nat):Prop where
 ph:0<=p.ph/\p.ph<=9
 h:1<=p.ph->p.ph<=7->p.h=C.cs.length
 m:2<=p.ph->p.ph<=6->p.m1=C.K/\p.m2=0
 m8:8<=p.ph->p.m1=C.K/\p.m2=C.K
 ld:3<=p.ph->p.ph<=5->p.nld=C.cs.length
 z:p.ph=9->p.h=0
 r0:p.ph≠9->1<=r
 e:p.ph=4->p=pE15 C/\r=1+C.cs.length+(C.K+C.cs.length)
 c1:p.ph=5->p.at_=1->p.ca=p.oc/\p.dc=true/\2<=p.od.length
 c0:¬(p.ph=5/\p.at_=1)->p.ca=[]
theorem rk_fx (hC:C.Ok) (hr:Rk15 C p r):Fx15 C p r:=by
 have hl:=hC.l
 cases hr with
 | @lk h hh=>exact ⟨⟨by show (0:Int)<=(0:Int);decide,by show (0:Int)<=(9:Int);decide⟩,fun h=>(by simp [pL15,pM15,pD15,pN15,pE15,pS15,pU15,pF15,pZ15] at h),fun h=>(by simp [pL15,pM15,pD15,pN15,pE15,pS15,pU15,pF15,pZ15] at h),fun h=>(by simp [pL15,pM15,pD15,pN15,pE15,pS15,pU15,pF15,pZ15] at h),fun h=>(by simp [pL15,pM15,pD15,pN15,pE15,pS15,pU15,pF15,pZ15] at h),fun h=>(by simp [pL15,pM15,pD15,pN15,pE15,pS15,pU15,pF15,pZ15] at h),fun _=>by omega,fun h=>(by simp [pL15,pM15,pD15,pN15,pE15,pS15,pU15,pF15,pZ15] at h),fun h=>(by simp [pL15,pM15,pD15,pN15,pE15,pS15,pU15,pF15,pZ15] at h),fun _=>rfl⟩
 | @mk j hj=>exact ⟨⟨by show (0:Int)<=(1:Int);decide,by show (1:Int)<=(9:Int);decide⟩,fun _ _=>rfl,fun h=>(by simp [pL15,pM15,pD15,pN15,pE15,pS15,pU15,pF15,pZ15] at h),fun h=>(by simp [pL15,pM15,pD15,pN15,pE15,pS15,pU15,pF15,pZ15] at h),fun h=>(by simp [pL15,pM15,pD15,pN15,pE15,pS15,pU15,pF15,pZ15] at h),fun h=>(by simp [pL15,pM15,pD15,pN15,pE15,pS15,pU15,pF15,pZ15] at h),fun _=>by omega,fun h=>(by simp [pL15,pM15,pD15,pN15,pE15,pS15,pU15,pF15,pZ15] at h),fun h=>(by simp [pL15,pM15,pD15,pN15,pE15,pS15,pU15,pF15,pZ15] at h),fun _=>rfl⟩
 | @ld i hi=>exact ⟨⟨by show (0:Int)<=(2:Int);decide,by show (2:Int)<=(9:Int);decide⟩,fun _ _=>rfl,fun _ _=>⟨rfl,rfl⟩,fun h=>(by simp [pL15,pM15,pD15,pN15,pE15,pS15,pU15,pF15,pZ15] at h),fun h=>(by simp [pL15,pM15,pD15,pN15,pE15,pS15,pU15,pF15,pZ15] at h),fun h=>(by simp [pL15,pM15,pD15,pN15,pE15,pS15,pU15,pF15,pZ15] at h),fun _=>by omega,fun h=>(by simp [pL15,pM15,pD15,pN15,pE15,pS15,pU15,pF15,pZ15] at h),fun h=>(by simp [pL15,pM15,pD15,pN15,pE15,pS15,pU15,pF15,pZ15] at h),fun _=>rfl⟩
 | @sn q hq=>exact ⟨⟨by show (0:Int)<=(3:Int);decide,by show (3:Int)<=(9:Int);decide⟩,fun _ _=>rfl,fun _ _=>⟨rfl,rfl⟩,fun h=>(by simp [pL15,pM15,pD15,pN15,pE15,pS15,pU15,pF15,pZ15] at h),fun _ _=>rfl,fun h=>(by simp [pL15,pM15,pD15,pN15,pE15,pS15,pU15,pF15,pZ15] at h),fun _=>by omega,fun h=>(by simp [pL15,pM15,pD15,pN15,pE15,pS15,pU15,pF15,pZ15] at h),fun h=>(by simp [pL15,pM15,pD15,pN15,pE15,pS15,pU15,pF15,pZ15] at h),fun _=>rfl⟩
 | de=>exact ⟨⟨by show (0:Int)<=(4:Int);decide,by show (4:Int)<=(9:Int);decide⟩,fun _ _=>rfl,fun _ _=>⟨rfl,rfl⟩,fun h=>(by simp [pL15,pM15,pD15,pN15,pE15,pS15,pU15,pF15,pZ15] at h),fun _ _=>rfl,fun h=>(by simp [pL15,pM15,pD15,pN15,pE15,pS15,pU15,pF15,pZ15] at h),fun _=>by omega,fun _=>⟨rfl,rfl⟩,fun h=>(by simp [pL15,pM15,pD15,pN15,pE15,pS15,pU15,pF15,pZ15] at h),fun _=>rfl⟩
 | @so od oc i ho hi=>
  have hol:=ho.l
  refine ⟨⟨by show (0:Int)<=(5:Int);decide,by show (5:Int)<=(9:Int);decide⟩,fun _ _=>rfl,fun _ _=>⟨rfl,rfl⟩,fun h=>(by simp [pL15,pM15,pD15,pN15,pE15,pS15,pU15,pF15,pZ15] at h),fun _ _=>rfl,fun h=>(by simp [pL15,pM15,pD15,pN15,pE15,pS15,pU15,pF15,pZ15] at h),fun _=>by omega,fun h=>(by simp [pL15,pM15,pD15,pN15,pE15,pS15,pU15,pF15,pZ15] at h),fun _ h1=>⟨?_,rfl,?_⟩,fun h=>?_⟩
  ·have e:i=1:=h1
   show (if i=0 then [] else oc)=oc
   rw [if_neg (by omega)]
  ·have e:i=1:=h1
   show 2<=od.length
   omega
  ·show (if i=0 then [] else oc)=[]
   by_cases h0:i=0
   ·rw [if_pos h0]
   ·exact absurd ⟨rfl,(by omega:i=1)⟩ h
 | @un od oc i hi=>exact ⟨⟨by show (0:Int)<=(7:Int);decide,by show (7:Int)<=(9:Int);decide⟩,fun _ _=>rfl,fun _ h=>(by simp [pL15,pM15,pD15,pN15,pE15,pS15,pU15,pF15,pZ15] at h),fun h=>(by simp [pL15,pM15,pD15,pN15,pE15,pS15,pU15,pF15,pZ15] at h),fun _ h=>(by simp [pL15,pM15,pD15,pN15,pE15,pS15,pU15,pF15,pZ15] at h),fun h=>(by simp [pL15,pM15,pD15,pN15,pE15,pS15,pU15,pF15,pZ15] at h),fun _=>by omega,fun h=>(by simp [pL15,pM15,pD15,pN15,pE15,pS15,pU15,pF15,pZ15] at h),fun h=>(by simp [pL15,pM15,pD15,pN15,pE15,pS15,pU15,pF15,pZ15] at h),fun _=>rfl⟩
 | @fr od oc h hh=>exact ⟨⟨by show (0:Int)<=(8:Int);decide,by show (8:Int)<=(9:Int);decide⟩,fun _ h=>(by simp [pL15,pM15,pD15,pN15,pE15,pS15,pU15,pF15,pZ15] at h),fun _ h=>(by simp [pL15,pM15,pD15,pN15,pE15,pS15,pU15,pF15,pZ15] at h),fun _=>⟨rfl,rfl⟩,fun _ h=>(by simp [pL15,pM15,pD15,pN15,pE15,pS15,pU15,pF15,pZ15] at h),fun h=>(by simp [pL15,pM15,pD15,pN15,pE15,pS15,pU15,pF15,pZ15] at h),fun _=>by omega,fun h=>(by simp [pL15,pM15,pD15,pN15,pE15,pS15,pU15,pF15,pZ15] at h),fun h=>(by simp [pL15,pM15,pD15,pN15,pE15,pS15,pU15,pF15,pZ15] at h),fun _=>rfl⟩
 | dn=>exact ⟨⟨by show (0:Int)<=(9:Int);decide,by show (9:Int)<=(9:Int);decide⟩,fun _ h=>(by simp [pL15,pM15,pD15,pN15,pE15,pS15,pU15,pF15,pZ15] at h),fun _ h=>(by simp [pL15,pM15,pD15,pN15,pE15,pS15,pU15,pF15,pZ15] at h),fun _=>⟨rfl,rfl⟩,fun _ h=>(by simp [pL15,pM15,pD15,pN15,pE15,pS15,pU15,pF15,pZ15] at h),fun _=>rfl,fun h=>absurd rfl h,fun h=>(by simp [pL15,pM15,pD15,pN15,pE15,pS15,pU15,pF15,pZ15] at h),fun h=>(by simp [pL15,pM15,pD15,pN15,pE15,pS15,pU15,pF15,pZ15] at h),fun _=>rfl⟩
theorem rk_le (hC:C.Ok) (hr:Rk15 C p r):r<=18:=by
 have hl:=hC.l
 have hkl:=hC.kl
 cases hr with
 | so ho hi=>have:=ho.l;omega
 | _=>omega
end
end Go.Proofs.YtkecnihgjepfeaaGreat
