/- What is proved here: parts of the proof: Dse Dun Llp Ldf Shz Slw. -/
import Derived.RangeFuncNested
import Derived.RangeFuncBound
import Derived.RangeFuncCalls
import Derived.RangeFuncLeaves
import Derived.RangeFuncBox
import Derived.Shelf.Abstract
import Derived.Shelf.RegionOpen
import Derived.OwnWalkIn
import Derived.TacticsInMore
import Derived.LoopNIn
import Derived.LoopIn
import Derived.Lib.SliceRun
import Derived.Test.YtkecnihgjepfeaaGreatJ25
namespace Go.Proofs.YtkecnihgjepfeaaGreat
open Go.RowKit Go.Shelf
set_option linter.unusedVariables false
set_option linter.unusedSimpArgs false
set_option maxHeartbeats 8000000
set_option maxRecDepth 20000
attribute [local go_sem] Oper.semAt_some
def Bx2 (W:World) (B:Nat) (d:Du):Prop:=W.heap[B]? = some (.cells #[.int .i64 d.dl,.int .i64 d.id] 155 (0,0))
end Go.Proofs.YtkecnihgjepfeaaGreat
namespace Go.Proofs.YtkecnihgjepfeaaGreat
open Go.RowKit
set_option linter.unusedVariables false
set_option linter.unusedSimpArgs false
set_option maxHeartbeats 8000000
set_option maxRecDepth 20000
def Nr (w:World) (B:Nat) (v:Value) (zs:List Int):Prop:=∃ A c,v=.slice A zs.length c/\zs.length<=c/\c<=maxLen/\Rd w B 1 A zs.length (zs.map i64v)
section
variable {w w' : World} {B B' : Nat} {v:Value} {zs:List Int} {A:Option Addr} {n c:Nat}
end
structure LpW (w:World) (p q:Nat) (A:Option Addr) (c:Nat) (l:List Le) (A2:Option Addr) (c2:Nat) (h:List Du) (ep:Int) (W:World):Prop where
 va:VaA w p A c l A2 c2 h W
 ce:W.cell? ⟨q,0,none⟩=some (.int .i64 ep)
 lt:q<W.heap.size
def kpI (p:Int->Bool) (zs:List Int):List Int:=zs.filter (fun x=>!p x)
structure DfI (p:Int->Bool) (zs:List Int) (i j:Nat) (ys:List Int):Prop where
 len:ys.length=zs.length
 kept:ys.take i=kpI p (zs.take j)
 left:ys.drop j=zs.drop j
 lt:i<j
 le:j<=zs.length
 il:i=(kpI p (zs.take j)).length
structure XpAt (w:World) (p r:Nat) (S:Sh) (D:Sx) (A0:Option Addr) (c0:Nat) (ids:List Int) (W:World):Prop where
 sa:SAt w p S D W
 rs:SB8 W r zS zX
 nr:Nr W W.heap.size (.slice A0 ids.length c0) ids
 o0:OffB p ids.length A0
 o1:OffB r ids.length A0
 dr:D.nw (r+1)
 ne:p<r
structure D5 (W:World) (d:Nat) (mx now vis ep lim:Int):Prop where
 c0:W.cell? ⟨d,0,none⟩=some (.int .i64 mx)
 c1:W.cell? ⟨d,1,none⟩=some (.int .i64 now)
 c2:W.cell? ⟨d,2,none⟩=some (.int .i64 vis)
 c3:W.cell? ⟨d,3,none⟩=some (.int .i64 ep)
 c4:W.cell? ⟨d,4,none⟩=some (.int .i64 lim)
 lt:d<W.heap.size
def H4f (W:World) (q:Nat) (H:Hn):Prop:=H4 W q H/\∀ o,W.frozen? ⟨q,o,none⟩=false
structure LwAt (w:World) (p d s:Nat) (S T:Sh) (D E:Sx) (mx now vis ep lim:Int) (A:Option Addr) (c:Nat) (K:List Le) (W:World):Prop where
 sa:SAt w p S D W
 sb:SAt w s T E W
 d5:D5 W d mx now vis ep lim
 el:El W W.heap.size (.slice A K.length c) K
structure LuAt (w:World) (p d s q a z:Nat) (S T:Sh) (D E:Sx) (mx now vis ep lim i g r x y:Int) (A:Option Addr) (c:Nat) (K:List Le) (W:World):Prop where
 lw:LwAt w p d s S T D E mx now vis ep lim A c K W
 hq:H4 W q ⟨i,g,r,0⟩
 ha:H4 W a ⟨i,x,r,0⟩
 hz:H4 W z ⟨i,g,y,0⟩
structure LzAt (w:World) (p d s q a z u v:Nat) (S T F1 F2:Sh) (D E D3 D4:Sx) (mx now vis ep lim i g r x y:Int) (A:Option Addr) (c:Nat) (K:List Le) (W:World):Prop where
 lu:LuAt w p d s q a z S T D E mx now vis ep lim i g r x y A c K W
 s1:SAt w u F1 D3 W
 s2:SAt w v F2 D4 W
abbrev LzK (d s q u v:Nat) (T F1 F2:Sh) (E D3 D4:Sx) (now ep i g r:Int) (W:World):Prop:=K8 u F1 D3 W/\K8 v F2 D4 W/\K8 s T E W/\W.cell? ⟨q,0,none⟩=some (.int .i64 i)/\W.cell? ⟨q,1,none⟩=some (.int .i64 g)/\W.cell? ⟨q,2,none⟩=some (.int .i64 r)/\W.cell? ⟨q,3,none⟩=some (.int .i64 0)/\W.cell? ⟨d,1,none⟩=some (.int .i64 now)/\W.cell? ⟨d,3,none⟩=some (.int .i64 ep)
section
variable {w W W' : World} {p d s q a z u v c:Nat} {S T F1 F2:Sh} {D E D3 D4:Sx} {mx now vis ep lim i g r x y:Int} {A:Option Addr} {K:List Le}
end
end Go.Proofs.YtkecnihgjepfeaaGreat
