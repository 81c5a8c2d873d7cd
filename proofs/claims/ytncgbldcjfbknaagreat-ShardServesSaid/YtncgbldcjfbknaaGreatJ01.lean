/- What is proved here: (plain functions) directories: spans, owners, homes, validity, splits and merges; (plain functions) forwards of a directory, homes, owners, Validate's answer, Apply's answer. -/
import Derived.Below
import Derived.WalkKit
namespace Go.Proofs.YtncgbldcjfbknaaGreat
open Go.RowKit
set_option linter.unusedVariables false
structure Sp where
 lo:Int
 hi:Int
 sh:Int
deriving DecidableEq
abbrev zSp:Sp:=⟨0,0,0⟩
def sg (l:List Sp) (k:Nat):Sp:=l.getD k zSp
def ig (F:List Int) (k:Nat):Int:=F.getD k 0
def ixN10:List Sp→Int→Nat→Int
 | [],_,_ => -1
 | x::l,s,k=>if x.sh=s then (k:Int) else ixN10 l s (k+1)
def ixS (l:List Sp) (s:Int):Int:=ixN10 l s 0
abbrev hasS (l:List Sp) (s:Int):Prop:=0≤ixS l s
def cvD:Int→List Sp→Bool
 | n,[]=>decide (n=65536)
 | n,x::l=>decide (x.lo=n)&&(decide (x.lo≤x.hi)&&(decide (x.hi≤65535)&&cvD (x.hi+1) l))
def nxD (l:List Sp) (k:Nat):Int:=if k=0 then 0 else (sg l (k - 1)).hi+1
def spK (l:List Sp) (k:Nat):Prop:=(sg l k).lo=nxD l k∧(sg l k).lo≤(sg l k).hi∧(sg l k).hi≤65535
abbrev slotP (n:Nat) (s:Int):Prop:=0≤s∧s<n
def msD (n:Nat) (l:List Sp):Bool:=l.all fun x=>decide (slotP n x.sh)
def duD (l:List Sp):Prop:=∃ i j,i<j∧j<l.length∧(sg l i).sh=(sg l j).sh
open Classical in
noncomputable def duB (l:List Sp):Bool:=decide (duD l)
def fwD (F:List Int):Nat→Int→Int
 | 0,a=>a
 | k+1,a=>if a<0 then a else fwD F k (ig F a.toNat)
def f1D (l:List Sp) (F:List Int) (i:Nat):Prop:=(-1≤ig F i∧ig F i<F.length)∧(hasS l (i:Int)→ig F i = -1)
def foD (l:List Sp) (F:List Int):Prop:=(∀ i,i<F.length→f1D l F i)∧∀ i:Nat,i<F.length→fwD F F.length (i:Int)<0
open Classical in
noncomputable def foB (l:List Sp) (F:List Int):Bool:=decide (foD l F)
structure Dd where
 vn:Int
 l:List Sp
 F:List Int
def zD10:Dd:=⟨0,[],[]⟩
def rgD (d:Dd):Prop:=(1≤d.vn∧d.vn≤1099511627776)∧1≤d.F.length∧d.F.length≤6
instance (d:Dd):Decidable (rgD d):=by unfold rgD;exact inferInstance
noncomputable def vaD (d:Dd):Int:=if ¬rgD d then 1 else if cvD 0 d.l=false then 7 else if msD d.F.length d.l=false then 4 else if duB d.l=true then 10 else if foB d.l d.F=false then 7 else 0
section
variable {d:Dd}
structure OkD (d:Dd):Prop where
 rg:rgD d
 sp:∀ k,k<d.l.length→spK d.l k
 en:nxD d.l d.l.length=65536
 ms:∀ k,k<d.l.length→slotP d.F.length (sg d.l k).sh
 du:¬duD d.l
 f1:∀ i,i<d.F.length→f1D d.l d.F i
 f2:∀ i:Nat,i<d.F.length→fwD d.F d.F.length (i:Int)<0
end
def hmD (l:List Sp) (F:List Int):Nat→Int→Int
 | 0,_ => -1
 | k+1,s=>if s<0 then -1 else if hasS l s then s else hmD l F k (ig F s.toNat)
noncomputable def homD (d:Dd) (s:Int):Int:=if vaD d=0∧slotP d.F.length s then hmD d.l d.F (d.F.length+1) s else -1
def HmI (d:Dd) (k:Nat) (s H:Int):Prop:=(-1≤s∧s<d.F.length)∧fwD d.F k s<0∧hmD d.l d.F (k+1) s=H
structure Ed where
 kd:Int
 fr:Int
 to:Int
 md:Int
section
variable {d:Dd} {e:Ed}
end
end Go.Proofs.YtncgbldcjfbknaaGreat
