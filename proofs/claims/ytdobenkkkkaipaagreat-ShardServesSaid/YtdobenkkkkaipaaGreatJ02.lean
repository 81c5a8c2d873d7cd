/- What is proved here: the bitwise operations of int at numbers that are not negative, as sums and remainders; (plain functions) the groups of seven bits of a number, and how they are read back; (plain functions) a text with its length; the bytes of a string in memory; (plain functions) what Decode reads; a message that lies in a block. -/
import Derived.Laws.BitsAllLaws
import Derived.Laws.BitsLemmas
import Derived.Laws.Bits128
import Derived.Test.YtdobenkkkkaipaaGreatJ01
import Derived.Lib.ConvBytes
import Derived.Deep.AppendLies
namespace Go.Proofs.YtdobenkkkkaipaaGreat
end Go.Proofs.YtdobenkkkkaipaaGreat
namespace Go.Proofs.YtdobenkkkkaipaaGreat
open Go.RowKit
set_option linter.unusedVariables false
def groups:Nat→Nat→List UInt8
 | 0,n=>[UInt8.ofNat n]
 | f+1,n=>if n<128 then [UInt8.ofNat n] else UInt8.ofNat (n % 128+128)::groups f (n / 128)
def gv:Nat→Nat→Nat→List UInt8→Option (Nat×Nat)
 | 0,_,_,_=>none
 | _+1,_,_,[]=>none
 | f+1,i,n,g::r=>
  if 128≤g.toNat then gv f (i+1) (n+g.toNat % 128*2 ^ (7*i)) r
  else if (0<i∧g.toNat=0)∨1099511627776<n+g.toNat % 128*2 ^ (7*i) then none
  else some (n+g.toNat % 128*2 ^ (7*i),i+1)
def GvEnd (at_:Nat) (r:Option (Nat×Nat)) (e:Ending):Prop:=
 e=.returned (match r with | some (n,k)=>.tuple #[.int .i64 n,.int .i64 (at_+k),.int .i64 0] | none=>.tuple #[.int .i64 0,.int .i64 0,.int .i64 8])
def pvE (n:Int):Int:=if 0≤n∧n≤1099511627776 then 0 else 1
def pvB (bs:List UInt8) (n:Int):List UInt8:=if 0≤n∧n≤1099511627776 then bs++groups 5 n.toNat else []
def gvR (at_:Int) (bs:List UInt8):Int×Int×Int:=
 if at_<0 then (0,0,1) else match gv 6 0 0 (bs.drop at_.toNat) with
  | some (n,k)=>(n,at_+k,0)
  | none=>(0,0,8)
def pxE (s:ByteArray) (m:Int):Int:=if m<0∨255<m then 1 else if m<(s.size:Int) then 2 else 0
def pxB (bs:List UInt8) (s:ByteArray) (m:Int):List UInt8:=if m<0∨255<m then [] else if m<(s.size:Int) then [] else bs++[UInt8.ofNat s.size]++s.data.toList
def gxS (at_ m:Int) (bs:List UInt8):ByteArray×Int×Int:=
 if m<0∨255<m∨at_<0 then (ByteArray.empty,0,1)
 else if (bs.length:Int)≤at_ then (ByteArray.empty,0,8)
 else if m<((bs.getD at_.toNat 0).toNat:Int) then (ByteArray.empty,0,2)
 else if (bs.length:Int)<at_+1+(bs.getD at_.toNat 0).toNat then (ByteArray.empty,0,8)
 else (⟨((bs.drop (at_.toNat+1)).take (bs.getD at_.toNat 0).toNat).toArray⟩,at_+1+(bs.getD at_.toNat 0).toNat,0)
def GxEnd (at_ g:Nat) (m:Int) (bs:List UInt8) (e:Ending):Prop:=
 e=.returned (if m<(g:Int) then .tuple #[.string ByteArray.empty,.int .i64 0,.int .i64 2]
  else if (bs.length:Int)<at_+1+g then .tuple #[.string ByteArray.empty,.int .i64 0,.int .i64 8]
  else .tuple #[.string ⟨((bs.drop (at_+1)).take g).toArray⟩,.int .i64 (at_+1+g),.int .i64 0])
def rdN (bs:List UInt8):Nat→Option ((Nat→Int)×Int)
 | 0=>some (fun _=>0,0)
 | k+1=>(rdN bs k).bind fun p=>if (gvR p.2 bs).2.2=0 then some (fun j=>if j=k then (gvR p.2 bs).1 else p.1 j,(gvR p.2 bs).2.1) else none
def decF (bs:List UInt8):Msg×Int:=
 match rdN bs 6 with
 | none=>(zM,8)
 | some (f,a)=>if (gxS a 16 bs).2.2=0∧(gxS a 16 bs).2.1=bs.length then (ckM ⟨f 0,f 1,f 2,f 3,f 4,f 5,(gxS a 16 bs).1⟩,vf ⟨f 0,f 1,f 2,f 3,f 4,f 5,(gxS a 16 bs).1⟩) else (zM,8)
def MAt (w:World) (g:Nat) (f:Nat→Int) (b:ByteArray):Prop:=
 g<w.heap.size∧(∀ j,j<6→w.cell? ⟨g,j,none⟩=some (.int .i64 (f j)))∧w.cell? ⟨g,6,none⟩=some (.string b)∧∀ o,o<7→w.frozen? ⟨g,o,none⟩=false
section
variable {w w' : World} {g B:Nat} {f:Nat→Int} {b:ByteArray}
theorem MAt.fresh (w:World) (x0 x1 x2 x3 x4 x5:Int) (b:ByteArray) (t:TypeId) (h0:f 0=x0) (h1:f 1=x1) (h2:f 2=x2) (h3:f 3=x3) (h4:f 4=x4) (h5:f 5=x5):MAt (w.alloc (.cells #[.int .i64 x0,.int .i64 x1,.int .i64 x2,.int .i64 x3,.int .i64 x4,.int .i64 x5,.string b] t)) w.heap.size f b:=by
 subst h0;subst h1;subst h2;subst h3;subst h4;subst h5
 refine ⟨by simp,fun j hj=>?_,by simp [go_sem],fun o ho=>by simp [go_sem]⟩
 match j,hj with
 | 0,_=>simp [go_sem]
 | 1,_=>simp [go_sem]
 | 2,_=>simp [go_sem]
 | 3,_=>simp [go_sem]
 | 4,_=>simp [go_sem]
 | 5,_=>simp [go_sem]
theorem MAt.below (h:MAt w g f b) (hb:Below B w w') (hg:g<B):MAt w' g f b:=
 ⟨Nat.lt_of_lt_of_le h.1 hb.size,fun j hj=>(hb.cell (p:=⟨g,j,none⟩) hg).trans (h.2.1 j hj),(hb.cell (p:=⟨g,6,none⟩) hg).trans h.2.2.1,fun o ho=>(hb.frozen (p:=⟨g,o,none⟩) hg).trans (h.2.2.2 o ho)⟩
theorem MAt.grown (h:MAt w g f b) {r:Nat} (hg:w.grownBy w' (some r)) (hne:g≠r):MAt w' g f b:=
 ⟨Nat.lt_of_lt_of_le h.1 hg.size,fun j hj=>(hg.cell_far ⟨g,j,none⟩ h.1 (fun e=>hne (by injection e))).trans (h.2.1 j hj),(hg.cell_far ⟨g,6,none⟩ h.1 (fun e=>hne (by injection e))).trans h.2.2.1,fun o ho=>(hg.frozen_far ⟨g,o,none⟩ h.1 (fun e=>hne (by injection e))).trans (h.2.2.2 o ho)⟩
theorem MAt.alloc (h:MAt w g f b) (o:Obj):MAt (w.alloc o) g f b:=h.below (w':=w.alloc o) ((Below.refl w.heap.size w).alloc (Nat.le_refl _) o) h.1
theorem MAt.other (h:MAt w g f b) {p:Addr} (hp:p.block≠g) (v:Value):MAt (w.setCell p v) g f b:=
 ⟨by simpa using h.1,fun j hj=>(World.cell?_setCell_other w p ⟨g,j,none⟩ v (fun e=>hp (by rw [e]))).trans (h.2.1 j hj),(World.cell?_setCell_other w p ⟨g,6,none⟩ v (fun e=>hp (by rw [e]))).trans h.2.2.1,fun o ho=>by rw [World.frozen?_setCell];exact h.2.2.2 o ho⟩
theorem MAt.put (h:MAt w g f b) (k:Nat) (hk:k<6) (n:Int):MAt (w.setCell ⟨g,k,none⟩ (.int .i64 n)) g (fun j=>if j=k then n else f j) b:=by
 refine ⟨by simpa using h.1,fun j hj=>?_,?_,fun o ho=>by rw [World.frozen?_setCell];exact h.2.2.2 o ho⟩
 ·by_cases e:j=k
  ·subst e
   have:=h.2.1 j hj
   simp [go_sem,this]
  ·show _=some (Value.int .i64 (if j=k then n else f j))
   rw [if_neg e]
   exact (World.cell?_setCell_other w _ _ _ (fun he=>by injection he;omega)).trans (h.2.1 j hj)
 ·exact (World.cell?_setCell_other w _ _ _ (fun he=>by injection he;omega)).trans h.2.2.1
theorem MAt.body (h:MAt w g f b) (s:ByteArray):MAt (w.setCell ⟨g,6,none⟩ (.string s)) g f s:=by
 refine ⟨by simpa using h.1,fun j hj=>(World.cell?_setCell_other w _ _ _ (fun he=>by injection he;omega)).trans (h.2.1 j hj),?_,fun o ho=>by rw [World.frozen?_setCell];exact h.2.2.2 o ho⟩
 have:=h.2.2.1
 simp [go_sem,this]
theorem MAt.facts (h:MAt w g f b):(w.cell? ⟨g,0,none⟩=some (.int .i64 (f 0))∧w.cell? ⟨g,1,none⟩=some (.int .i64 (f 1))∧w.cell? ⟨g,2,none⟩=some (.int .i64 (f 2))∧w.cell? ⟨g,3,none⟩=some (.int .i64 (f 3))∧w.cell? ⟨g,4,none⟩=some (.int .i64 (f 4))∧w.cell? ⟨g,5,none⟩=some (.int .i64 (f 5))∧w.cell? ⟨g,6,none⟩=some (.string b))∧
  (w.frozen? ⟨g,0,none⟩=false∧w.frozen? ⟨g,1,none⟩=false∧w.frozen? ⟨g,2,none⟩=false∧w.frozen? ⟨g,3,none⟩=false∧w.frozen? ⟨g,4,none⟩=false∧w.frozen? ⟨g,5,none⟩=false∧w.frozen? ⟨g,6,none⟩=false):=
 ⟨⟨h.2.1 0 (by omega),h.2.1 1 (by omega),h.2.1 2 (by omega),h.2.1 3 (by omega),h.2.1 4 (by omega),h.2.1 5 (by omega),h.2.2.1⟩,h.2.2.2 0 (by omega),h.2.2.2 1 (by omega),h.2.2.2 2 (by omega),h.2.2.2 3 (by omega),h.2.2.2 4 (by omega),h.2.2.2 5 (by omega),h.2.2.2 6 (by omega)⟩
def NAt (w:World) (g:Nat) (f:Nat→Int):Prop:=
 g<w.heap.size∧(∀ j,j<6→w.cell? ⟨g,j,none⟩=some (.int .i64 (f j)))∧∀ o,o<6→w.frozen? ⟨g,o,none⟩=false
end
def DcEnd (w:World) (bs:List UInt8) (e:Ending) (w' : World):Prop:=e=.returned (.tuple #[(decF bs).1.v,.int .i64 (decF bs).2])∧Below w.heap.size w w'
end Go.Proofs.YtdobenkkkkaipaaGreat
