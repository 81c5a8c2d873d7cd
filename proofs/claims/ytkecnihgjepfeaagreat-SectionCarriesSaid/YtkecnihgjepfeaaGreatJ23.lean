/- What is proved here: parts of the proof: Shc Scl Shpt Shp Mdv Shq. -/
import Derived.Test.YtkecnihgjepfeaaGreatJ22
/- Plain: lists as results in new memory. -/
namespace Go.Proofs.YtkecnihgjepfeaaGreat
open Go.RowKit
set_option linter.unusedVariables false
set_option linter.unusedSimpArgs false
set_option maxHeartbeats 8000000
set_option maxRecDepth 20000
def LsV (w:World) (l:List Msg) (e:Ending) (w' : World):Prop:=∃ A c,e=.returned (.slice A l.length c)/\Nw w.heap.size A/\Ls w' w'.heap.size (.slice A l.length c) l/\Below w.heap.size w w'
theorem eclp_elv {w w' : World} {l:List Le} {e:Ending} (h:EClP w l e w'):ElV w l e w':=by
 obtain ⟨v,rfl,ho,hb⟩:=h
 obtain ⟨A,c,rfl⟩:=own_form ho
 exact ⟨A,c,rfl,nwv_of (nwv_own ho (nLR _)),El.of_own ho,hb⟩
theorem dclp_dlv {w w' : World} {l:List Du} {e:Ending} (h:DClP w l e w'):DlV w l e w':=by
 obtain ⟨v,rfl,ho,hb⟩:=h
 obtain ⟨A,c,rfl⟩:=own_form ho
 exact ⟨A,c,rfl,nwv_of (nwv_own ho (nLR _)),Dl.of_own ho,hb⟩
end Go.Proofs.YtkecnihgjepfeaaGreat
namespace Go.Proofs.YtkecnihgjepfeaaGreat
open Go.RowKit
set_option linter.unusedVariables false
set_option linter.unusedSimpArgs false
set_option maxHeartbeats 8000000
set_option maxRecDepth 20000
structure Cs7c (w:World) (p r:Nat) (S:Sh) (D:Sx) (W:World):Prop where
 sa:SAt w p S D W
 rb:SB8 W r zS zX
 ne:p<r/\w.heap.size<=r
section
variable {w W W' : World} {p r:Nat} {S:Sh} {D:Sx}
end
structure SmrAt (w:World) (p q r:Nat) (S:Sh) (D:Sx) (M:Msg) (W:World):Prop where
 sm:SmAt w p q S D M W
 rs:SB8 W r zS zX
 ne:q<r
theorem SB8.all {W:World} {r:Nat} {T:Sh} {E:Sx} (h:SB8 W r T E):(W.cell? ⟨r,0,none⟩=some (.bool T.lv)/\W.cell? ⟨r,1,none⟩=some (.int .i64 T.lo)/\W.cell? ⟨r,2,none⟩=some (.int .i64 T.hi)/\W.cell? ⟨r,3,none⟩=some (.slice E.A T.cs.length E.c)/\W.cell? ⟨r,4,none⟩=some (.int .i64 T.hd)/\W.cell? ⟨r,5,none⟩=some (.int .i64 T.sz)/\W.cell? ⟨r,6,none⟩=some (.slice E.A2 T.l.length E.c2)/\W.cell? ⟨r,7,none⟩=some (.slice E.A3 T.h.length E.c3)/\r<W.heap.size)/\(W.frozen? ⟨r,0,none⟩=false/\W.frozen? ⟨r,1,none⟩=false/\W.frozen? ⟨r,2,none⟩=false/\W.frozen? ⟨r,3,none⟩=false/\W.frozen? ⟨r,4,none⟩=false/\W.frozen? ⟨r,5,none⟩=false/\W.frozen? ⟨r,6,none⟩=false/\W.frozen? ⟨r,7,none⟩=false):=⟨h.facts,h.free⟩
end Go.Proofs.YtkecnihgjepfeaaGreat
/- Plain: what pushes, releases, grants and extensions make of a valid live shard. -/
namespace Go.Proofs.YtkecnihgjepfeaaGreat
open Go.RowKit
set_option linter.unusedVariables false
set_option linter.unusedSimpArgs false
set_option maxHeartbeats 8000000
set_option maxRecDepth 20000
def Vs.push (V:Vs) (M:Msg):Vs:=⟨V.lo,V.hi,V.n,V.hd,V.L++[M],V.l,V.h⟩
def Vs.front (V:Vs) (M:Msg):Vs:=⟨V.lo,V.hi,V.n,(V.hd+(V.n - 1)) % V.n,M::V.L,V.l,V.h⟩
noncomputable def Vs.rel (V:Vs) (id:Int):Vs:=⟨V.lo,V.hi,V.n,V.hd,V.L,rlL V.l V.h id,rlH V.l V.h id⟩
noncomputable def Vs.gr (V:Vs) (x:Le):Vs:=⟨V.lo,V.hi,V.n,V.hd,V.L,grL V.l V.h x,grH V.l V.h x⟩
structure Fits (V:Vs) (M:Msg):Prop where
 vf:vf M=0
 own:V.lo<=M.rt/\M.rt<=V.hi
 room:V.L.length+V.l.length<V.n
 new:∀ N∈V.al,N.id≠M.id
section
variable {V:Vs} {M:Msg} {x:Le} {id dl:Int}
end
end Go.Proofs.YtkecnihgjepfeaaGreat
namespace Go.Proofs.YtkecnihgjepfeaaGreat
open Go.RowKit
set_option linter.unusedVariables false
set_option linter.unusedSimpArgs false
set_option maxHeartbeats 8000000
set_option maxRecDepth 20000
def dlE (M:Msg):Int:=if vf M=0 then (if M.gn=65536 then 6 else if M.ct=8 then 7 else 0) else vf M
def dlM (M:Msg):Msg:=if dlE M=0 then ⟨M.id,M.rt,M.ep,M.ct+1,M.gn+1,M.st,M.bd⟩ else zM
end Go.Proofs.YtkecnihgjepfeaaGreat
/- Plain: picking the first messages that are wanted; granting them. -/
namespace Go.Proofs.YtkecnihgjepfeaaGreat
open Go.RowKit
set_option linter.unusedVariables false
set_option linter.unusedSimpArgs false
set_option maxHeartbeats 8000000
set_option maxRecDepth 20000
def pkS (mx:Nat) (p:Msg->Bool) (s:List Msg×List Msg) (M:Msg):List Msg×List Msg:=if s.1.length<mx/\p M=true then (s.1++[M],s.2) else (s.1,s.2++[M])
def pk (mx:Nat) (p:Msg->Bool) (L:List Msg):List Msg×List Msg:=L.foldl (pkS mx p) ([],[])
section
variable {mx:Nat} {p:Msg->Bool} {L:List Msg} {M:Msg} {i:Nat}
end
def Vs.ring (V:Vs) (L:List Msg):Vs:=⟨V.lo,V.hi,V.n,V.hd,L,V.l,V.h⟩
noncomputable def Vs.grs (dl:Int) (V:Vs) (T:List Msg):Vs:=T.foldl (fun V M=>V.gr ⟨dlM M,dl⟩) V
noncomputable def Vs.take (V:Vs) (mx:Nat) (p:Msg->Bool) (dl:Int):Vs:=(V.ring (pk mx p V.L).2).grs dl (pk mx p V.L).1
section
variable {V:Vs} {dl:Int}
end
end Go.Proofs.YtkecnihgjepfeaaGreat
