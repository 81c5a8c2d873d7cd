/- What is proved here: parts of the proof: Sht Shs Dse Dun Llp Ldf. -/
import Derived.Test.YtkecnihgjepfeaaGreatJ24
import Derived.RangeFuncNested
import Derived.RangeFuncBound
import Derived.RangeFuncCalls
import Derived.RangeFuncLeaves
import Derived.RangeFuncBox
import Derived.Shelf.Abstract
import Derived.Shelf.RegionOpen
import Derived.OwnWalkIn
import Derived.TacticsInMore
import Derived.LoopNIn
import Derived.LoopIn
import Derived.Lib.SliceRun
namespace Go.Proofs.YtkecnihgjepfeaaGreat
open Go.RowKit
set_option linter.unusedVariables false
set_option linter.unusedSimpArgs false
set_option maxHeartbeats 8000000
set_option maxRecDepth 20000
structure TqAt (w:World) (p b1 b2 r:Nat) (S:Sh) (D:Sx) (ep lim:Int) (W:World):Prop where
 sa:SAt w p S D W
 cap:CapAt b1 b2 ep lim W
 rs:SB8 W r zS zX
 ne:p<b1/\b1<b2/\b2<r
abbrev TqK (p b1 b2:Nat) (S:Sh) (D:Sx) (ep lim:Int) (W:World):Prop:=K8 p S D W/\W.cell? ⟨b1,0,none⟩=some (.int .i64 ep)/\W.cell? ⟨b2,0,none⟩=some (.int .i64 lim)
section
variable {w W W' : World} {p b1 b2 r:Nat} {S:Sh} {D:Sx} {ep lim:Int}
end
structure TkAt (w:World) (p r B:Nat) (S:Sh) (D:Sx) (A0:Option Addr) (c0:Nat) (L:List Msg) (lv:Value) (K:List Le) (W:World):Prop where
 sa:SAt w p S D W
 rs:SB8 W r zS zX
 l0:Ls W B (.slice A0 L.length c0) L
 o0:OffB p L.length A0
 own:W.ownsRow B 152 8 lv K.length (ecs K)
 dj:∀ q,lv.ownBlock=some q->SOff S D q
 dr:D.nw (r+1)
 ne:p<r/\r<B/\B<=W.heap.size
section
variable {w W W' : World} {p r B c0:Nat} {S:Sh} {D:Sx} {A0:Option Addr} {L:List Msg} {K K' : List Le} {lv:Value}
end
end Go.Proofs.YtkecnihgjepfeaaGreat
namespace Go.Proofs.YtkecnihgjepfeaaGreat
open Go.RowKit Go.Shelf
set_option linter.unusedVariables false
set_option linter.unusedSimpArgs false
set_option maxHeartbeats 8000000
set_option maxRecDepth 20000
attribute [local go_sem] Oper.semAt_some
def Bx2 (W:World) (B:Nat) (d:Du):Prop:=W.heap[B]? = some (.cells #[.int .i64 d.dl,.int .i64 d.id] 155 (0,0))
end Go.Proofs.YtkecnihgjepfeaaGreat
namespace Go.Proofs.YtkecnihgjepfeaaGreat
open Go.RowKit
set_option linter.unusedVariables false
set_option linter.unusedSimpArgs false
set_option maxHeartbeats 8000000
set_option maxRecDepth 20000
def Nr (w:World) (B:Nat) (v:Value) (zs:List Int):Prop:=∃ A c,v=.slice A zs.length c/\zs.length<=c/\c<=maxLen/\Rd w B 1 A zs.length (zs.map i64v)
section
variable {w w' : World} {B B' : Nat} {v:Value} {zs:List Int} {A:Option Addr} {n c:Nat}
end
structure LpW (w:World) (p q:Nat) (A:Option Addr) (c:Nat) (l:List Le) (A2:Option Addr) (c2:Nat) (h:List Du) (ep:Int) (W:World):Prop where
 va:VaA w p A c l A2 c2 h W
 ce:W.cell? ⟨q,0,none⟩=some (.int .i64 ep)
 lt:q<W.heap.size
def kpI (p:Int->Bool) (zs:List Int):List Int:=zs.filter (fun x=>!p x)
structure DfI (p:Int->Bool) (zs:List Int) (i j:Nat) (ys:List Int):Prop where
 len:ys.length=zs.length
 kept:ys.take i=kpI p (zs.take j)
 left:ys.drop j=zs.drop j
 lt:i<j
 le:j<=zs.length
 il:i=(kpI p (zs.take j)).length
end Go.Proofs.YtkecnihgjepfeaaGreat
