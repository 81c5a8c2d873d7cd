/- What is proved here: (plain functions) directories: spans, owners, homes, validity, splits and merges; (plain functions) forwards of a directory, homes, owners, Validate's answer, Apply's answer. -/
import Derived.Below
import Derived.WalkKit
namespace Go.Proofs.YtncgbldcjfbknaaGreat
open Go.RowKit
set_option linter.unusedVariables false
/-- A span of routes. -/
structure Sp where
 lo:Int
 hi:Int
 sh:Int
deriving DecidableEq
abbrev zSp:Sp:=⟨0,0,0⟩
/-- The element at a place. -/
def sg (l:List Sp) (k:Nat):Sp:=l.getD k zSp
theorem sg_get {l:List Sp} {k:Nat} (h:k<l.length):sg l k=l[k]:=by simp [sg,List.getD,h]
theorem sg_mem {l:List Sp} {k:Nat} (h:k<l.length):sg l k∈l:=by rw [sg_get h];exact List.getElem_mem h
/-- The number at a place. -/
def ig (F:List Int) (k:Nat):Int:=F.getD k 0
theorem ig_get {F:List Int} {k:Nat} (h:k<F.length):ig F k=F[k]:=by simp [ig,List.getD,h]
/-- The index of the span of a slot, from k on. -/
def ixN10:List Sp→Int→Nat→Int
 | [],_,_ => -1
 | x::l,s,k=>if x.sh=s then (k:Int) else ixN10 l s (k+1)
/-- The index of the span of a slot, or -1. -/
def ixS (l:List Sp) (s:Int):Int:=ixN10 l s 0
/-- There is a span of the slot. -/
abbrev hasS (l:List Sp) (s:Int):Prop:=0≤ixS l s
/-- The spans follow each other from n on, to the last route. -/
def cvD:Int→List Sp→Bool
 | n,[]=>decide (n=65536)
 | n,x::l=>decide (x.lo=n)&&(decide (x.lo≤x.hi)&&(decide (x.hi≤65535)&&cvD (x.hi+1) l))
/-- Where the next span must begin behind k spans. -/
def nxD (l:List Sp) (k:Nat):Int:=if k=0 then 0 else (sg l (k - 1)).hi+1
/-- The span at k is as it must be. -/
def spK (l:List Sp) (k:Nat):Prop:=(sg l k).lo=nxD l k∧(sg l k).lo≤(sg l k).hi∧(sg l k).hi≤65535
theorem cvD_gen (n:Int) (l:List Sp):cvD n l=true↔(∀ k,k<l.length→(sg l k).lo=(if k=0 then n else (sg l (k - 1)).hi+1)∧(sg l k).lo≤(sg l k).hi∧(sg l k).hi≤65535)∧(if l.length=0 then n else (sg l (l.length - 1)).hi+1)=65536:=by
 induction l generalizing n with
 | nil=>simp [cvD]
 | cons x l ih=>
  simp only [cvD,Bool.and_eq_true,decide_eq_true_eq,ih]
  constructor
  ·rintro ⟨h1,h2,h3,h4,h5⟩
   refine ⟨fun k hk=>?_,?_⟩
   ·cases k with
    | zero=>simpa [sg] using ⟨h1,h2,h3⟩
    | succ k=>
     have:=h4 k (by simpa using hk)
     cases k with
     | zero=>simpa [sg] using this
     | succ k=>simpa [sg] using this
   ·cases l with
    | nil=>simpa [sg] using h5
    | cons y l=>simpa [sg] using h5
  ·rintro ⟨h1,h2⟩
   have h0:=h1 0 (by simp)
   simp [sg] at h0
   refine ⟨h0.1,h0.2.1,h0.2.2,fun k hk=>?_,?_⟩
   ·have:=h1 (k+1) (by simpa using hk)
    cases k with
    | zero=>simpa [sg] using this
    | succ k=>simpa [sg] using this
   ·cases l with
    | nil=>simpa [sg] using h2
    | cons y l=>simpa [sg] using h2
theorem cvD_iff (l:List Sp):cvD 0 l=true↔(∀ k,k<l.length→spK l k)∧nxD l l.length=65536:=by
 rw [cvD_gen]
 rfl
/-- A number is a slot. -/
abbrev slotP (n:Nat) (s:Int):Prop:=0≤s∧s<n
/-- All shards are slots. -/
def msD (n:Nat) (l:List Sp):Bool:=l.all fun x=>decide (slotP n x.sh)
theorem msD_iff {n:Nat} {l:List Sp}:msD n l=true↔∀ k,k<l.length→slotP n (sg l k).sh:=by
 simp only [msD,List.all_eq_true,decide_eq_true_eq]
 constructor
 ·intro h k hk;exact h _ (sg_mem hk)
 ·intro h x hx
  obtain ⟨k,hk,rfl⟩:=List.getElem_of_mem hx
  have:=h k hk
  rwa [sg_get hk] at this
/-- Two spans have the same shard. -/
def duD (l:List Sp):Prop:=∃ i j,i<j∧j<l.length∧(sg l i).sh=(sg l j).sh
open Classical in
noncomputable def duB (l:List Sp):Bool:=decide (duD l)
open Classical in
theorem duB_yes {l:List Sp} (h:duD l):duB l=true:=decide_eq_true h
open Classical in
theorem duB_no {l:List Sp} (h:¬duD l):duB l=false:=decide_eq_false h
/-- Where k steps lead. -/
def fwD (F:List Int):Nat→Int→Int
 | 0,a=>a
 | k+1,a=>if a<0 then a else fwD F k (ig F a.toNat)
theorem fwD_pos {F:List Int} {a:Int} (k:Nat) (h:0≤a):fwD F (k+1) a=fwD F k (ig F a.toNat):=by rw [fwD,if_neg (by omega)]
/-- Forward of a slot is a slot or -1, and -1 if the slot has a span. -/
def f1D (l:List Sp) (F:List Int) (i:Nat):Prop:=(-1≤ig F i∧ig F i<F.length)∧(hasS l (i:Int)→ig F i = -1)
/-- All forwards are as they must be, as the reference asks. -/
def foD (l:List Sp) (F:List Int):Prop:=(∀ i,i<F.length→f1D l F i)∧∀ i:Nat,i<F.length→fwD F F.length (i:Int)<0
open Classical in
noncomputable def foB (l:List Sp) (F:List Int):Bool:=decide (foD l F)
open Classical in
theorem foB_yes {l:List Sp} {F:List Int} (h:foD l F):foB l F=true:=decide_eq_true h
open Classical in
theorem foB_no {l:List Sp} {F:List Int} (h:¬foD l F):foB l F=false:=decide_eq_false h
/-- A directory. -/
structure Dd where
 vn:Int
 l:List Sp
 F:List Int
def zD10:Dd:=⟨0,[],[]⟩
def rgD (d:Dd):Prop:=(1≤d.vn∧d.vn≤1099511627776)∧1≤d.F.length∧d.F.length≤6
instance (d:Dd):Decidable (rgD d):=by unfold rgD;exact inferInstance
/-- Validate's answer. -/
noncomputable def vaD (d:Dd):Int:=if ¬rgD d then 1 else if cvD 0 d.l=false then 7 else if msD d.F.length d.l=false then 4 else if duB d.l=true then 10 else if foB d.l d.F=false then 7 else 0
section
variable {d:Dd}
theorem vaD_1 (h:¬rgD d):vaD d=1:=if_pos h
theorem vaD_cv (h:rgD d) (h1:cvD 0 d.l=false):vaD d=7:=by unfold vaD;rw [if_neg (not_not_intro h),if_pos h1]
theorem vaD_ms (h:rgD d) (h1:cvD 0 d.l=true) (h2:msD d.F.length d.l=false):vaD d=4:=by unfold vaD;rw [if_neg (not_not_intro h),if_neg (by simp [h1]),if_pos h2]
theorem vaD_du (h:rgD d) (h1:cvD 0 d.l=true) (h2:msD d.F.length d.l=true) (h3:duB d.l=true):vaD d=10:=by unfold vaD;rw [if_neg (not_not_intro h),if_neg (by simp [h1]),if_neg (by simp [h2]),if_pos h3]
theorem vaD_fo (h:rgD d) (h1:cvD 0 d.l=true) (h2:msD d.F.length d.l=true) (h3:duB d.l=false) (h4:foB d.l d.F=false):vaD d=7:=by unfold vaD;rw [if_neg (not_not_intro h),if_neg (by simp [h1]),if_neg (by simp [h2]),if_neg (by simp [h3]),if_pos h4]
theorem vaD_ok (h:rgD d) (h1:cvD 0 d.l=true) (h2:msD d.F.length d.l=true) (h3:duB d.l=false) (h4:foB d.l d.F=true):vaD d=0:=by unfold vaD;rw [if_neg (not_not_intro h),if_neg (by simp [h1]),if_neg (by simp [h2]),if_neg (by simp [h3]),if_neg (by simp [h4])]
/-- A valid directory. -/
structure OkD (d:Dd):Prop where
 rg:rgD d
 sp:∀ k,k<d.l.length→spK d.l k
 en:nxD d.l d.l.length=65536
 ms:∀ k,k<d.l.length→slotP d.F.length (sg d.l k).sh
 du:¬duD d.l
 f1:∀ i,i<d.F.length→f1D d.l d.F i
 f2:∀ i:Nat,i<d.F.length→fwD d.F d.F.length (i:Int)<0
theorem OkD.va (h:OkD d):vaD d=0:=vaD_ok h.rg ((cvD_iff _).2 ⟨h.sp,h.en⟩) (msD_iff.2 h.ms) (duB_no h.du) (foB_yes ⟨h.f1,h.f2⟩)
theorem ok_va (h:vaD d=0):OkD d:=by
 by_cases h0:rgD d
 ·cases h1:cvD 0 d.l with
  | false=>rw [vaD_cv h0 h1] at h;exact absurd h (by decide)
  | true=>
   cases h2:msD d.F.length d.l with
   | false=>rw [vaD_ms h0 h1 h2] at h;exact absurd h (by decide)
   | true=>
    by_cases h3:duD d.l
    ·rw [vaD_du h0 h1 h2 (duB_yes h3)] at h;exact absurd h (by decide)
    ·by_cases h4:foD d.l d.F
     ·exact ⟨h0,((cvD_iff _).1 h1).1,((cvD_iff _).1 h1).2,msD_iff.1 h2,h3,h4.1,h4.2⟩
     ·rw [vaD_fo h0 h1 h2 (duB_no h3) (foB_no h4)] at h;exact absurd h (by decide)
 ·rw [vaD_1 h0] at h;exact absurd h (by decide)
end
/-- Where the way from a slot leads within k steps. -/
def hmD (l:List Sp) (F:List Int):Nat→Int→Int
 | 0,_ => -1
 | k+1,s=>if s<0 then -1 else if hasS l s then s else hmD l F k (ig F s.toNat)
theorem hmD_neg {l:List Sp} {F:List Int} {k:Nat} {s:Int} (h:s<0):hmD l F k s = -1:=by
 cases k with
 | zero=>rfl
 | succ k=>rw [hmD,if_pos h]
theorem hmD_has {l:List Sp} {F:List Int} {k:Nat} {s:Int} (h0:0≤s) (h:hasS l s):hmD l F (k+1) s=s:=by rw [hmD,if_neg (by omega),if_pos h]
theorem hmD_next {l:List Sp} {F:List Int} {k:Nat} {s:Int} (h0:0≤s) (h:¬hasS l s):hmD l F (k+1) s=hmD l F k (ig F s.toNat):=by rw [hmD,if_neg (by omega),if_neg h]
/-- Home's answer. -/
noncomputable def homD (d:Dd) (s:Int):Int:=if vaD d=0∧slotP d.F.length s then hmD d.l d.F (d.F.length+1) s else -1
/-- The way of a slot in a valid directory: k steps are enough. -/
def HmI (d:Dd) (k:Nat) (s H:Int):Prop:=(-1≤s∧s<d.F.length)∧fwD d.F k s<0∧hmD d.l d.F (k+1) s=H
theorem HmI.start {d:Dd} (h:vaD d=0) {s:Int} (hs:slotP d.F.length s):HmI d d.F.length s (homD d s):=by
 have ho:=ok_va h
 refine ⟨⟨by have:=hs.1;omega,hs.2⟩,?_,by unfold homD;rw [if_pos ⟨h,hs⟩]⟩
 have:=ho.f2 s.toNat (by have:=hs;omega)
 rwa [Int.toNat_of_nonneg hs.1] at this
theorem HmI.last {d:Dd} {k:Nat} {s H:Int} (h:HmI d k s H) (hs:s<0):s = -1∧H = -1:=⟨by have:=h.1.1;omega,by rw [←h.2.2,hmD_neg hs]⟩
theorem HmI.hit {d:Dd} {k:Nat} {s H:Int} (h:HmI d k s H) (hs:0≤s) (hh:hasS d.l s):H=s:=by rw [←h.2.2,hmD_has hs hh]
theorem HmI.next {d:Dd} (ho:OkD d) {k:Nat} {s H:Int} (h:HmI d k s H) (hs:0≤s) (hh:¬hasS d.l s):∃ k',k=k'+1∧HmI d k' (ig d.F s.toNat) H:=by
 cases k with
 | zero=>have:=h.2.1;simp only [fwD] at this;omega
 | succ k=>
  have h1:=ho.f1 s.toNat (by have:=h.1.2;omega)
  refine ⟨k,rfl,h1.1,?_,?_⟩
  ·have:=h.2.1;rwa [fwD_pos k hs] at this
  ·have:=h.2.2;rwa [hmD_next hs hh] at this
/-- A change. -/
structure Ed where
 kd:Int
 fr:Int
 to:Int
 md:Int
section
variable {d:Dd} {e:Ed}
end
end Go.Proofs.YtncgbldcjfbknaaGreat
