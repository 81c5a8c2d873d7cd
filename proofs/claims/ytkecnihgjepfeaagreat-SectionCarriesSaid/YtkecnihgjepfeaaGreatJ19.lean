/- What is proved here: parts of the proof: Lre Lex Lgr Rew Rtg Bed. -/
import Derived.Test.YtkecnihgjepfeaaGreatJ18
import Derived.Deep.OwnRows
namespace Go.Proofs.YtkecnihgjepfeaaGreat
open Go.RowKit
set_option linter.unusedVariables false
set_option linter.unusedSimpArgs false
set_option maxHeartbeats 8000000
set_option maxRecDepth 20000
def ElV (w:World) (l:List Le) (e:Ending) (w' : World):Prop:=∃ A c,e=.returned (.slice A l.length c)/\Nw w.heap.size A/\El w' w'.heap.size (.slice A l.length c) l/\Below w.heap.size w w'
abbrev RMs (W:World) (r:Nat) (M:Msg):Prop:=W.cell? ⟨r,0,none⟩=some (.int .i64 M.id)/\W.cell? ⟨r,1,none⟩=some (.int .i64 M.rt)/\W.cell? ⟨r,2,none⟩=some (.int .i64 M.ep)/\W.cell? ⟨r,3,none⟩=some (.int .i64 M.ct)/\W.cell? ⟨r,4,none⟩=some (.int .i64 M.gn)/\W.cell? ⟨r,5,none⟩=some (.int .i64 M.st)/\W.cell? ⟨r,6,none⟩=some (.string M.bd)/\W.frozen? ⟨r,0,none⟩=false/\W.frozen? ⟨r,1,none⟩=false/\W.frozen? ⟨r,2,none⟩=false/\W.frozen? ⟨r,3,none⟩=false/\W.frozen? ⟨r,4,none⟩=false/\W.frozen? ⟨r,5,none⟩=false/\W.frozen? ⟨r,6,none⟩=false/\r<W.heap.size
structure RlW (w:World) (p r s:Nat) (A:Option Addr) (c:Nat) (l:List Le) (A2:Option Addr) (c2:Nat) (h:List Du) (W:World):Prop where
 va:VaA w p A c l A2 c2 h W
 rt:RT W r none 0 0 none 0 0
 rm:RMs W s zM
 ne:w.heap.size<=p/\p<r/\r<s
section
variable {w W W' : World} {p r s c c2:Nat} {A A2:Option Addr} {l:List Le} {h:List Du}
end
structure ExW (w:World) (p r:Nat) (A:Option Addr) (c:Nat) (l:List Le) (A2:Option Addr) (c2:Nat) (h:List Du) (W:World):Prop where
 va:VaA w p A c l A2 c2 h W
 rt:RT W r none 0 0 none 0 0
 ne:w.heap.size<=p/\p<r
section
variable {w W W' : World} {p r c c2:Nat} {A A2:Option Addr} {l:List Le} {h:List Du}
end
structure GrW (w:World) (p q r s:Nat) (A:Option Addr) (c:Nat) (l:List Le) (A2:Option Addr) (c2:Nat) (h:List Du) (X:Le) (W:World):Prop where
 va:VaA w p A c l A2 c2 h W
 rt:RT W r none 0 0 none 0 0
 le:El8 W s X
 mq:W.cell? ⟨q,0,none⟩=some (.int .i64 X.m.id)/\q<W.heap.size
 ne:w.heap.size<=p/\p<r/\r<s
section
variable {w W W' : World} {p q r s c c2:Nat} {A A2:Option Addr} {l:List Le} {h:List Du} {X:Le}
end
structure LsAt (w:World) (lo:Nat) (v:Value) (l:List Du) (W:World):Prop where
 dl:Dl W W.heap.size v l
 nw:NwV lo v
 bel:Below w.heap.size w W
structure GrV (w:World) (p q r:Nat) (A:Option Addr) (c:Nat) (l:List Le) (A2:Option Addr) (c2:Nat) (h:List Du) (X:Le) (W:World):Prop where
 va:VaA w p A c l A2 c2 h W
 mq:W.cell? ⟨q,0,none⟩=some (.int .i64 X.m.id)/\W.cell? ⟨q,1,none⟩=some (.int .i64 X.m.rt)/\W.cell? ⟨q,2,none⟩=some (.int .i64 X.m.ep)/\W.cell? ⟨q,3,none⟩=some (.int .i64 X.m.ct)/\W.cell? ⟨q,4,none⟩=some (.int .i64 X.m.gn)/\W.cell? ⟨q,5,none⟩=some (.int .i64 X.m.st)/\W.cell? ⟨q,6,none⟩=some (.string X.m.bd)/\q<W.heap.size
 rt:RT W r none 0 0 none 0 0
 ne:w.heap.size<=p/\p<q/\q<r
section
variable {w W W' : World} {p q r c c2:Nat} {A A2:Option Addr} {l:List Le} {h:List Du} {X:Le}
end
def be (s n:Nat):List UInt8:=(List.range s).map fun j=>UInt8.ofNat (n / 2 ^ (8*(s - 1 - j)))
theorem be_length (s n:Nat):(be s n).length=s:=by simp [be]
theorem be_get (s n j:Nat) (h:j<s):(be s n)[j]'(by rw [be_length];exact h)=UInt8.ofNat (n / 2 ^ (8*(s - 1 - j))):=by simp [be]
theorem oct_mod (x:Nat):oct (UInt8.ofNat x)=.int .u8 ((x:Int) % 256):=by
 unfold oct
 rw [show (UInt8.ofNat x).toNat=x % 256 from by simp]
 simp
theorem Bs.of_row {w:World} {B g:Nat} {t:TypeId} {n c:Nat} {f:Nat->Value} {bs:List UInt8} (h:w.rowIs g t n f) (hg:g<B) (hl:bs.length=n) (hc:n<=c) (hm:c<=maxLen) (hf:∀ j (hj:j<bs.length),f j=oct bs[j]):Bs w B (.slice (some ⟨g,0,none⟩) n c) bs:=by
 subst hl
 refine ⟨_,c,rfl,hc,hm,by simp,fun _=>⟨g,0,rfl,hg,fun j u hu=>?_⟩⟩
 rw [Nat.zero_add]
 simp only [List.getElem?_map,Option.map_eq_some_iff] at hu
 obtain ⟨x,hx,rfl⟩:=hu
 obtain ⟨hj,rfl⟩:=List.getElem?_eq_some_iff.1 hx
 rw [h.cell hj,hf j hj]
theorem pow_le48 (s:Nat) (h:s<=6):(2:Int) ^ (8*s)<=281474976710656/\(0:Int)<=2 ^ (8*s)/\((2 ^ (8*s):Nat):Int)=(2:Int) ^ (8*s):=by
 match s,h with
 | 0,_=>decide
 | 1,_=>decide
 | 2,_=>decide
 | 3,_=>decide
 | 4,_=>decide
 | 5,_=>decide
 | 6,_=>decide
theorem be_take (s n j:Nat) (hj:j+1<=s):(be s n).take (s - j)=(be s n).take (s - (j+1))++[UInt8.ofNat (n / 2 ^ (8*j))]:=by
 have hl:s - (j+1)<(be s n).length:=by rw [be_length];omega
 rw [show s - j=s - (j+1)+1 by omega,List.take_succ_eq_append_getElem hl,be_get s n _ (by omega),show s - 1 - (s - (j+1))=j by omega]
def ptOk (n s:Int):Bool:=decide (1<=s/\s<=6/\0<=n/\n<2 ^ (8*s.toNat))
def ptE (n s:Int):Int:=if ptOk n s then 0 else 1
def ptB (bs:List UInt8) (n s:Int):List UInt8:=if ptOk n s then bs++be s.toNat n.toNat else []
theorem pt4 (id:Int) (h0:0<=id) (h1:id<=1073741824):ptE id 4=0/\ptB [] id 4=be 4 id.toNat:=by
 have hk:ptOk id 4=true:=by
  refine decide_eq_true ⟨by omega,by omega,h0,?_⟩
  rw [show (2:Int) ^ (8*(4:Int).toNat)=4294967296 by decide]
  omega
 unfold ptE ptB
 rw [if_pos hk,if_pos hk]
 exact ⟨rfl,rfl⟩
end Go.Proofs.YtkecnihgjepfeaaGreat
