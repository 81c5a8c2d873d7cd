/- What is proved here: parts of the proof: Lgr Rew Rtg Bed Srt Srg. -/
import Derived.Test.YtkecnihgjepfeaaGreatJ18
import Derived.Deep.OwnRows
import Derived.Laws.ShiftsVarLaws
namespace Go.Proofs.YtkecnihgjepfeaaGreat
open Go.RowKit
set_option linter.unusedVariables false
set_option linter.unusedSimpArgs false
set_option maxHeartbeats 8000000
set_option maxRecDepth 20000
structure GrW (w:World) (p q r s:Nat) (A:Option Addr) (c:Nat) (l:List Le) (A2:Option Addr) (c2:Nat) (h:List Du) (X:Le) (W:World):Prop where
 va:VaA w p A c l A2 c2 h W
 rt:RT W r none 0 0 none 0 0
 le:El8 W s X
 mq:W.cell? ⟨q,0,none⟩=some (.int .i64 X.m.id)/\q<W.heap.size
 ne:w.heap.size<=p/\p<r/\r<s
section
variable {w W W' : World} {p q r s c c2:Nat} {A A2:Option Addr} {l:List Le} {h:List Du} {X:Le}
end
structure LsAt (w:World) (lo:Nat) (v:Value) (l:List Du) (W:World):Prop where
 dl:Dl W W.heap.size v l
 nw:NwV lo v
 bel:Below w.heap.size w W
structure GrV (w:World) (p q r:Nat) (A:Option Addr) (c:Nat) (l:List Le) (A2:Option Addr) (c2:Nat) (h:List Du) (X:Le) (W:World):Prop where
 va:VaA w p A c l A2 c2 h W
 mq:W.cell? ⟨q,0,none⟩=some (.int .i64 X.m.id)/\W.cell? ⟨q,1,none⟩=some (.int .i64 X.m.rt)/\W.cell? ⟨q,2,none⟩=some (.int .i64 X.m.ep)/\W.cell? ⟨q,3,none⟩=some (.int .i64 X.m.ct)/\W.cell? ⟨q,4,none⟩=some (.int .i64 X.m.gn)/\W.cell? ⟨q,5,none⟩=some (.int .i64 X.m.st)/\W.cell? ⟨q,6,none⟩=some (.string X.m.bd)/\q<W.heap.size
 rt:RT W r none 0 0 none 0 0
 ne:w.heap.size<=p/\p<q/\q<r
section
variable {w W W' : World} {p q r c c2:Nat} {A A2:Option Addr} {l:List Le} {h:List Du} {X:Le}
end
def be (s n:Nat):List UInt8:=(List.range s).map fun j=>UInt8.ofNat (n / 2 ^ (8*(s - 1 - j)))
structure TaAt (w:World) (B g r y:Nat) (A:Option Addr) (c:Nat) (l:List Le) (A2:Option Addr) (c2:Nat) (h:List Du) (W:World):Prop where
 rs:RT W r none 0 0 none 0 0
 rb:RT W y A l.length c A2 h.length c2
 el:El W W.heap.size (.slice A l.length c) l
 dl:Dl W W.heap.size (.slice A2 h.length c2) h
 src:SrcAt W B g
 grow:w.grownBy W (some g)
 nw:Nw (y+1) A/\Nw (y+1) A2
 ne:g<w.heap.size/\w.heap.size<=r/\r<y
section
variable {w W W' : World} {B g r y c c2:Nat} {A A2:Option Addr} {l:List Le} {h:List Du}
end
def Off (b:Nat) (A:Option Addr):Prop:=∀ a,A=some a->a.block≠b
end Go.Proofs.YtkecnihgjepfeaaGreat
