/- What is proved here: parts of the proof: Dr Drf. -/
import Derived.Below
import Derived.WalkKit
namespace Go.Proofs.YtkecnihgjepfeaaGreat
open Go.RowKit
set_option linter.unusedVariables false
set_option linter.unusedSimpArgs false
set_option maxHeartbeats 8000000
set_option maxRecDepth 20000
structure Sp where
 lo:Int
 hi:Int
 sh:Int
deriving DecidableEq
abbrev zSp:Sp:=⟨0,0,0⟩
def sg (l:List Sp) (k:Nat):Sp:=l.getD k zSp
theorem sg_get {l:List Sp} {k:Nat} (h:k<l.length):sg l k=l[k]:=by simp [sg,List.getD,h]
theorem sg_mem {l:List Sp} {k:Nat} (h:k<l.length):sg l k∈l:=by rw [sg_get h];exact List.getElem_mem h
theorem sg_take {l:List Sp} {j k:Nat} (h:k<j):sg (l.take j) k=sg l k:=by simp [sg,List.getD,h]
def ig (F:List Int) (k:Nat):Int:=F.getD k 0
theorem ig_get {F:List Int} {k:Nat} (h:k<F.length):ig F k=F[k]:=by simp [ig,List.getD,h]
def ixN10:List Sp->Int->Nat->Int
 | [],_,_ => -1
 | x::l,s,k=>if x.sh=s then (k:Int) else ixN10 l s (k+1)
def ixS (l:List Sp) (s:Int):Int:=ixN10 l s 0
theorem ixN_none {l:List Sp} {s:Int} (k:Nat) (h:∀ x∈l,x.sh≠s):ixN10 l s k = -1:=by
 induction l generalizing k with
 | nil=>rfl
 | cons x l ih=>rw [ixN10,if_neg (h x (by simp))];exact ih _ fun y hy=>h y (by simp [hy])
theorem ixN_hit {l:List Sp} {s:Int} (k:Nat) {i:Nat} (hi:i<l.length) (he:l[i].sh=s) (hn:∀ j (hj:j<i),l[j].sh≠s):ixN10 l s k=(k+i:Nat):=by
 induction l generalizing k i with
 | nil=>simp at hi
 | cons x l ih=>
  cases i with
  | zero=>rw [ixN10,if_pos (by simpa using he)];rfl
  | succ i=>
   rw [ixN10,if_neg (by simpa using hn 0 (by omega)),ih (k+1) (by simpa using hi) (by simpa using he) (fun j hj=>by simpa using hn (j+1) (by omega))]
   congr 1;omega
theorem ixS_none {l:List Sp} {s:Int} (h:∀ j,j<l.length->(sg l j).sh≠s):ixS l s = -1:=ixN_none 0 fun x hx=>by
 obtain ⟨j,hj,rfl⟩:=List.getElem_of_mem hx
 have:=h j hj
 rwa [sg_get hj] at this
theorem ixS_hit {l:List Sp} {s:Int} {i:Nat} (hi:i<l.length) (he:(sg l i).sh=s) (hn:∀ j,j<i->(sg l j).sh≠s):ixS l s=(i:Int):=by
 have:=ixN_hit (l:=l) (s:=s) 0 hi (by rwa [sg_get hi] at he) (fun j hj=>by have:=hn j hj;rwa [sg_get (by omega)] at this)
 rwa [Nat.zero_add] at this
theorem ixS_cases (l:List Sp) (s:Int):(ixS l s = -1/\∀ j,j<l.length->(sg l j).sh≠s)\/∃ i:Nat,ixS l s=(i:Int)/\i<l.length/\(sg l i).sh=s/\∀ j,j<i->(sg l j).sh≠s:=by
 by_cases h:∀ j,j<l.length->(sg l j).sh≠s
 ·exact .inl ⟨ixS_none h,h⟩
 ·have h' : ∃ j,j<l.length/\(sg l j).sh=s:=by
   apply Classical.byContradiction
   intro hn
   exact h fun j hj e=>hn ⟨j,hj,e⟩
  have h2:∃ i,(i<l.length/\(sg l i).sh=s)/\∀ j,j<i->¬(j<l.length/\(sg l j).sh=s):=by
   obtain ⟨j,hj⟩:=h'
   induction j using Nat.strongRecOn with
   | _ j ih=>
    by_cases hm:∃ m,m<j/\(m<l.length/\(sg l m).sh=s)
    ·obtain ⟨m,hm1,hm2⟩:=hm
     exact ih m hm1 hm2
    ·exact ⟨j,hj,fun m hm1 hm2=>hm ⟨m,hm1,hm2⟩⟩
  obtain ⟨i,⟨hi,he⟩,hn⟩:=h2
  exact .inr ⟨i,ixS_hit hi he (fun j hj e=>hn j hj ⟨by omega,e⟩),hi,he,fun j hj e=>hn j hj ⟨by omega,e⟩⟩
theorem ixS_neg {l:List Sp} {s:Int} (h:¬0<=ixS l s):ixS l s = -1/\∀ j,j<l.length->(sg l j).sh≠s:=by
 rcases ixS_cases l s with h1 | ⟨i,h1,_⟩
 ·exact h1
 ·omega
theorem ixS_pos {l:List Sp} {s:Int} (h:0<=ixS l s):∃ i:Nat,ixS l s=(i:Int)/\i<l.length/\(sg l i).sh=s/\∀ j,j<i->(sg l j).sh≠s:=by
 rcases ixS_cases l s with h1 | h1
 ·omega
 ·exact h1
abbrev hasS (l:List Sp) (s:Int):Prop:=0<=ixS l s
theorem hasS_iff {l:List Sp} {s:Int}:hasS l s↔∃ x∈l,x.sh=s:=by
 constructor
 ·intro h
  obtain ⟨i,_,hi,he,_⟩:=ixS_pos h
  exact ⟨_,sg_mem hi,he⟩
 ·rintro ⟨x,hx,e⟩
  apply Classical.byContradiction
  intro h
  obtain ⟨j,hj,rfl⟩:=List.getElem_of_mem hx
  have:=(ixS_neg h).2 j hj
  rw [sg_get hj] at this
  exact this e
def cvD:Int->List Sp->Bool
 | n,[]=>decide (n=65536)
 | n,x::l=>decide (x.lo=n)&&(decide (x.lo<=x.hi)&&(decide (x.hi<=65535)&&cvD (x.hi+1) l))
def nxD (l:List Sp) (k:Nat):Int:=if k=0 then 0 else (sg l (k - 1)).hi+1
theorem nxD_zero (l:List Sp):nxD l 0=0:=if_pos rfl
theorem nxD_succ (l:List Sp) (k:Nat):nxD l (k+1)=(sg l k).hi+1:=by unfold nxD;rw [if_neg (by omega),Nat.add_sub_cancel]
def spK (l:List Sp) (k:Nat):Prop:=(sg l k).lo=nxD l k/\(sg l k).lo<=(sg l k).hi/\(sg l k).hi<=65535
theorem cvD_gen (n:Int) (l:List Sp):cvD n l=true↔(∀ k,k<l.length->(sg l k).lo=(if k=0 then n else (sg l (k - 1)).hi+1)/\(sg l k).lo<=(sg l k).hi/\(sg l k).hi<=65535)/\(if l.length=0 then n else (sg l (l.length - 1)).hi+1)=65536:=by
 induction l generalizing n with
 | nil=>simp [cvD]
 | cons x l ih=>
  simp only [cvD,Bool.and_eq_true,decide_eq_true_eq,ih]
  constructor
  ·rintro ⟨h1,h2,h3,h4,h5⟩
   refine ⟨fun k hk=>?_,?_⟩
   ·cases k with
    | zero=>simpa [sg] using ⟨h1,h2,h3⟩
    | succ k=>
     have:=h4 k (by simpa using hk)
     cases k with
     | zero=>simpa [sg] using this
     | succ k=>simpa [sg] using this
   ·cases l with
    | nil=>simpa [sg] using h5
    | cons y l=>simpa [sg] using h5
  ·rintro ⟨h1,h2⟩
   have h0:=h1 0 (by simp)
   simp [sg] at h0
   refine ⟨h0.1,h0.2.1,h0.2.2,fun k hk=>?_,?_⟩
   ·have:=h1 (k+1) (by simpa using hk)
    cases k with
    | zero=>simpa [sg] using this
    | succ k=>simpa [sg] using this
   ·cases l with
    | nil=>simpa [sg] using h2
    | cons y l=>simpa [sg] using h2
theorem cvD_iff (l:List Sp):cvD 0 l=true↔(∀ k,k<l.length->spK l k)/\nxD l l.length=65536:=by
 rw [cvD_gen]
 rfl
theorem cvD_no {l:List Sp} {k:Nat} (hk:k<l.length) (h:¬spK l k):cvD 0 l=false:=by
 cases e:cvD 0 l with
 | false=>rfl
 | true=>exact absurd (((cvD_iff l).1 e).1 k hk) h
theorem cvD_end {l:List Sp} (h:∀ k,k<l.length->spK l k):cvD 0 l=decide (nxD l l.length=65536):=by
 cases e:cvD 0 l with
 | true=>exact (decide_eq_true ((cvD_iff l).1 e).2).symm
 | false=>
  symm
  apply decide_eq_false
  intro h2
  rw [(cvD_iff l).2 ⟨h,h2⟩] at e
  cases e
abbrev slotP (n:Nat) (s:Int):Prop:=0<=s/\s<n
def msD (n:Nat) (l:List Sp):Bool:=l.all fun x=>decide (slotP n x.sh)
theorem msD_iff {n:Nat} {l:List Sp}:msD n l=true↔∀ k,k<l.length->slotP n (sg l k).sh:=by
 simp only [msD,List.all_eq_true,decide_eq_true_eq]
 constructor
 ·intro h k hk;exact h _ (sg_mem hk)
 ·intro h x hx
  obtain ⟨k,hk,rfl⟩:=List.getElem_of_mem hx
  have:=h k hk
  rwa [sg_get hk] at this
theorem msD_no {n:Nat} {l:List Sp} {k:Nat} (hk:k<l.length) (h:¬slotP n (sg l k).sh):msD n l=false:=by
 cases e:msD n l with
 | false=>rfl
 | true=>exact absurd (msD_iff.1 e k hk) h
def duD (l:List Sp):Prop:=∃ i j,i<j/\j<l.length/\(sg l i).sh=(sg l j).sh
open Classical in
noncomputable def duB (l:List Sp):Bool:=decide (duD l)
open Classical in
theorem duB_yes {l:List Sp} (h:duD l):duB l=true:=decide_eq_true h
open Classical in
theorem duB_no {l:List Sp} (h:¬duD l):duB l=false:=decide_eq_false h
theorem ixS_take {l:List Sp} {k:Nat} {s:Int} (hk:k<=l.length):0<=ixS (l.take k) s↔∃ i,i<k/\(sg l i).sh=s:=by
 constructor
 ·intro h
  obtain ⟨i,_,hi,he,_⟩:=ixS_pos h
  have hik:i<k:=by simp at hi;omega
  exact ⟨i,hik,by rwa [sg_take hik] at he⟩
 ·rintro ⟨i,hi,he⟩
  exact hasS_iff.2 ⟨sg (l.take k) i,sg_mem (by simp;omega),by rwa [sg_take hi]⟩
theorem du_take {l:List Sp} {k:Nat} (hk:k<l.length) (h:0<=ixS (l.take k) (sg l k).sh):duD l:=by
 obtain ⟨i,hi,he⟩:=(ixS_take (by omega)).1 h
 exact ⟨i,k,hi,hk,he⟩
theorem du_not {l:List Sp} (h:∀ k,k<l.length->¬0<=ixS (l.take k) (sg l k).sh):¬duD l:=by
 rintro ⟨i,j,hij,hj,e⟩
 exact h j hj ((ixS_take (by omega)).2 ⟨i,hij,e⟩)
def fwD (F:List Int):Nat->Int->Int
 | 0,a=>a
 | k+1,a=>if a<0 then a else fwD F k (ig F a.toNat)
theorem fwD_neg {F:List Int} {a:Int} (k:Nat) (h:a<0):fwD F k a=a:=by
 cases k with
 | zero=>rfl
 | succ k=>rw [fwD,if_pos h]
theorem fwD_pos {F:List Int} {a:Int} (k:Nat) (h:0<=a):fwD F (k+1) a=fwD F k (ig F a.toNat):=by rw [fwD,if_neg (by omega)]
def pvD (F:List Int):Nat->Int->Bool
 | 0,_=>false
 | k+1,s=>if ig F s.toNat = -1 then true else if slotP F.length (ig F s.toNat) then pvD F k (ig F s.toNat) else false
theorem pvD_one {F:List Int} {k:Nat} {s:Int} (h:ig F s.toNat = -1):pvD F (k+1) s=true:=by rw [pvD,if_pos h]
theorem pvD_no {F:List Int} {k:Nat} {s:Int} (h:ig F s.toNat ≠ -1) (h2:¬slotP F.length (ig F s.toNat)):pvD F (k+1) s=false:=by rw [pvD,if_neg h,if_neg h2]
theorem pvD_next {F:List Int} {k:Nat} {s:Int} (h:ig F s.toNat ≠ -1) (h2:slotP F.length (ig F s.toNat)):pvD F (k+1) s=pvD F k (ig F s.toNat):=by rw [pvD,if_neg h,if_pos h2]
def fvB (l:List Sp) (F:List Int) (s:Int):Bool:=if hasS l s then decide (ig F s.toNat = -1) else pvD F F.length s
def f1D (l:List Sp) (F:List Int) (i:Nat):Prop:=(-1<=ig F i/\ig F i<F.length)/\(hasS l (i:Int)->ig F i = -1)
def foD (l:List Sp) (F:List Int):Prop:=(∀ i,i<F.length->f1D l F i)/\∀ i:Nat,i<F.length->fwD F F.length (i:Int)<0
open Classical in
noncomputable def foB (l:List Sp) (F:List Int):Bool:=decide (foD l F)
open Classical in
theorem foB_yes {l:List Sp} {F:List Int} (h:foD l F):foB l F=true:=decide_eq_true h
open Classical in
theorem foB_no {l:List Sp} {F:List Int} (h:¬foD l F):foB l F=false:=decide_eq_false h
theorem pv_fw {F:List Int} (hb:∀ i,i<F.length -> -1<=ig F i/\ig F i<F.length) (k:Nat) (s:Int) (hs:slotP F.length s):pvD F k s=true↔fwD F k s<0:=by
 induction k generalizing s with
 | zero=>simp only [pvD,fwD];constructor <;> intro h <;> first | cases h | (have:=hs.1;omega)
 | succ k ih=>
  rw [fwD_pos k hs.1]
  have h1:=hb s.toNat (by have:=hs;omega)
  by_cases he:ig F s.toNat = -1
  ·rw [pvD_one he,fwD_neg k (by omega)]
   exact ⟨fun _=>by omega,fun _=>rfl⟩
  ·have h2:slotP F.length (ig F s.toNat):=⟨by omega,h1.2⟩
   rw [pvD_next he h2]
   exact ih _ h2
theorem fv_fo {l:List Sp} {F:List Int}:(∀ i:Nat,i<F.length->fvB l F (i:Int)=true)↔foD l F:=by
 constructor
 ·intro h
  have hb:∀ i,i<F.length->f1D l F i:=fun i hi=>by
   have h1:=h i hi
   unfold fvB at h1
   by_cases hs:hasS l (i:Int)
   ·rw [if_pos hs] at h1
    have h2:ig F i = -1:=by simpa using h1
    exact ⟨⟨by omega,by omega⟩,fun _=>h2⟩
   ·rw [if_neg hs] at h1
    obtain ⟨n,hn⟩:∃ n,F.length=n+1:=⟨F.length - 1,by omega⟩
    rw [hn] at h1
    by_cases he:ig F i = -1
    ·exact ⟨⟨by omega,by omega⟩,fun _=>he⟩
    ·by_cases h2:slotP F.length (ig F ((i:Int)).toNat)
     ·exact ⟨⟨by have:=h2.1;simp at this;omega,by have:=h2.2;simpa using this⟩,fun h3=>absurd h3 hs⟩
     ·rw [pvD_no (by simpa using he) h2] at h1;cases h1
  refine ⟨hb,fun i hi=>?_⟩
  have h1:=h i hi
  unfold fvB at h1
  by_cases hs:hasS l (i:Int)
  ·obtain ⟨n,hn⟩:∃ n,F.length=n+1:=⟨F.length - 1,by omega⟩
   have h2:=(hb i hi).2 hs
   rw [hn,fwD_pos _ (by omega)]
   rw [show ((i:Int)).toNat=i from rfl,h2,fwD_neg _ (by omega)]
   omega
  ·rw [if_neg hs] at h1
   exact (pv_fw (fun j hj=>(hb j hj).1) _ _ ⟨by omega,by omega⟩).1 h1
 ·rintro ⟨hb,hf⟩ i hi
  unfold fvB
  by_cases hs:hasS l (i:Int)
  ·rw [if_pos hs]
   have h2:=(hb i hi).2 hs
   simpa using h2
  ·rw [if_neg hs]
   exact (pv_fw (fun j hj=>(hb j hj).1) _ _ ⟨by omega,by omega⟩).2 (hf i hi)
theorem fv_no {l:List Sp} {F:List Int} {i:Nat} (hi:i<F.length) (h:fvB l F (i:Int)=false):foB l F=false:=foB_no fun hf=>by
 have:=fv_fo.2 hf i hi
 rw [h] at this;cases this
theorem fv_yes {l:List Sp} {F:List Int} (h:∀ i:Nat,i<F.length->fvB l F (i:Int)=true):foB l F=true:=foB_yes (fv_fo.1 h)
structure Dd where
 vn:Int
 l:List Sp
 F:List Int
def zD10:Dd:=⟨0,[],[]⟩
def rgD (d:Dd):Prop:=(1<=d.vn/\d.vn<=1099511627776)/\1<=d.F.length/\d.F.length<=6
instance (d:Dd):Decidable (rgD d):=by unfold rgD;exact inferInstance
noncomputable def vaD (d:Dd):Int:=if ¬rgD d then 1 else if cvD 0 d.l=false then 7 else if msD d.F.length d.l=false then 4 else if duB d.l=true then 10 else if foB d.l d.F=false then 7 else 0
section
variable {d:Dd}
theorem vaD_1 (h:¬rgD d):vaD d=1:=if_pos h
theorem vaD_cv (h:rgD d) (h1:cvD 0 d.l=false):vaD d=7:=by unfold vaD;rw [if_neg (not_not_intro h),if_pos h1]
theorem vaD_ms (h:rgD d) (h1:cvD 0 d.l=true) (h2:msD d.F.length d.l=false):vaD d=4:=by unfold vaD;rw [if_neg (not_not_intro h),if_neg (by simp [h1]),if_pos h2]
theorem vaD_du (h:rgD d) (h1:cvD 0 d.l=true) (h2:msD d.F.length d.l=true) (h3:duB d.l=true):vaD d=10:=by unfold vaD;rw [if_neg (not_not_intro h),if_neg (by simp [h1]),if_neg (by simp [h2]),if_pos h3]
theorem vaD_fo (h:rgD d) (h1:cvD 0 d.l=true) (h2:msD d.F.length d.l=true) (h3:duB d.l=false) (h4:foB d.l d.F=false):vaD d=7:=by unfold vaD;rw [if_neg (not_not_intro h),if_neg (by simp [h1]),if_neg (by simp [h2]),if_neg (by simp [h3]),if_pos h4]
theorem vaD_ok (h:rgD d) (h1:cvD 0 d.l=true) (h2:msD d.F.length d.l=true) (h3:duB d.l=false) (h4:foB d.l d.F=true):vaD d=0:=by unfold vaD;rw [if_neg (not_not_intro h),if_neg (by simp [h1]),if_neg (by simp [h2]),if_neg (by simp [h3]),if_neg (by simp [h4])]
structure OkD (d:Dd):Prop where
 rg:rgD d
 sp:∀ k,k<d.l.length->spK d.l k
 en:nxD d.l d.l.length=65536
 ms:∀ k,k<d.l.length->slotP d.F.length (sg d.l k).sh
 du:¬duD d.l
 f1:∀ i,i<d.F.length->f1D d.l d.F i
 f2:∀ i:Nat,i<d.F.length->fwD d.F d.F.length (i:Int)<0
theorem ok_va (h:vaD d=0):OkD d:=by
 by_cases h0:rgD d
 ·cases h1:cvD 0 d.l with
  | false=>rw [vaD_cv h0 h1] at h;exact absurd h (by decide)
  | true=>
   cases h2:msD d.F.length d.l with
   | false=>rw [vaD_ms h0 h1 h2] at h;exact absurd h (by decide)
   | true=>
    by_cases h3:duD d.l
    ·rw [vaD_du h0 h1 h2 (duB_yes h3)] at h;exact absurd h (by decide)
    ·by_cases h4:foD d.l d.F
     ·exact ⟨h0,((cvD_iff _).1 h1).1,((cvD_iff _).1 h1).2,msD_iff.1 h2,h3,h4.1,h4.2⟩
     ·rw [vaD_fo h0 h1 h2 (duB_no h3) (foB_no h4)] at h;exact absurd h (by decide)
 ·rw [vaD_1 h0] at h;exact absurd h (by decide)
end
noncomputable def spnD (d:Dd) (s:Int):Sp:=if vaD d=0/\0<=ixS d.l s then sg d.l (ixS d.l s).toNat else zSp
noncomputable def spnB (d:Dd) (s:Int):Bool:=decide (vaD d=0/\0<=ixS d.l s)
def hmD (l:List Sp) (F:List Int):Nat->Int->Int
 | 0,_ => -1
 | k+1,s=>if s<0 then -1 else if hasS l s then s else hmD l F k (ig F s.toNat)
noncomputable def homD (d:Dd) (s:Int):Int:=if vaD d=0/\slotP d.F.length s then hmD d.l d.F (d.F.length+1) s else -1
def HmI (d:Dd) (k:Nat) (s H:Int):Prop:=(-1<=s/\s<d.F.length)/\fwD d.F k s<0/\hmD d.l d.F (k+1) s=H
structure Ed where
 kd:Int
 fr:Int
 to:Int
 md:Int
section
variable {d:Dd} {e:Ed}
end
end Go.Proofs.YtkecnihgjepfeaaGreat
