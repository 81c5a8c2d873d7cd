/- What is proved here: parts of the proof: Awd10 Dow Dmg Dap Dsn10 Rzd. -/
import Derived.Test.YtkecnihgjepfeaaGreatJ13
namespace Go.Proofs.YtkecnihgjepfeaaGreat
open Go.RowKit
set_option linter.unusedVariables false
set_option linter.unusedSimpArgs false
set_option maxHeartbeats 8000000
set_option maxRecDepth 20000
theorem vaD_dec {d:Dd} (h1:rgD d) (h2:cvD 0 d.l=true) (h3:msD d.F.length d.l=true) (h4:∀ j,j<d.l.length->∀ i,i<j->(sg d.l i).sh≠(sg d.l j).sh) (h5:∀ i,i<d.F.length->(-1<=ig d.F i/\ig d.F i<d.F.length)/\(hasS d.l (i:Int)->ig d.F i = -1))
  (h6:∀ i,i<d.F.length->fwD d.F d.F.length (i:Int)<0):vaD d=0:=by
 refine vaD_ok h1 h2 h3 ?_ ?_
 ·have:¬duD d.l:=fun ⟨i,j,hij,hj,he⟩=>h4 j hj i hij he
  simp [duB,this]
 ·have:foD d.l d.F:=⟨h5,h6⟩
  simp [foB,this]
structure DD (w:World) (p:Nat) (d:Dd) (X:Dx) (W:World):Prop where
 db:Db10 W p d X
 dr:DR W W.heap.size d X
 old:w.heap.size<=p
 bel:Below w.heap.size w W
end Go.Proofs.YtkecnihgjepfeaaGreat
namespace Go.Proofs.YtkecnihgjepfeaaGreat
set_option linter.unusedVariables false
set_option linter.unusedSimpArgs false
set_option maxHeartbeats 8000000
set_option maxRecDepth 20000
theorem nw_va {n m:Nat} (h1:1<=m) (h2:m<=n) (h3:n<=6):vaD (nwD n m)=0:=by
 have hE:nwE10 n m=0:=by unfold nwE10;rw [if_pos (by omega)]
 have e:nwD n m=⟨1,nwL m m,List.replicate n (-1)⟩:=by unfold nwD;rw [if_pos hE];simp
 rw [e]
 clear hE e
 have hn:n=1\/n=2\/n=3\/n=4\/n=5\/n=6:=by omega
 have hm:m=1\/m=2\/m=3\/m=4\/m=5\/m=6:=by omega
 rcases hn with rfl | rfl | rfl | rfl | rfl | rfl <;> rcases hm with rfl | rfl | rfl | rfl | rfl | rfl
 all_goals first
  | (exfalso;omega)
  | exact vaD_dec (by unfold rgD;decide +kernel) (by decide +kernel) (by decide +kernel) (by decide +kernel) (by decide +kernel) (by decide +kernel)
end Go.Proofs.YtkecnihgjepfeaaGreat
namespace Go.Proofs.YtkecnihgjepfeaaGreat
open Go.RowKit
set_option linter.unusedVariables false
set_option linter.unusedSimpArgs false
set_option maxHeartbeats 8000000
set_option maxRecDepth 20000
abbrev MgS (p q g f u:Nat) (d:Dd) (X:Dx) (e:Ed) (W:World):Prop:=W.cell? ⟨p,1,none⟩=some (.slice (some ⟨g,0,none⟩) d.l.length X.c)/\W.cell? ⟨q,2,none⟩=some (.int .i64 e.to)/\W.cell? ⟨g,f*3,none⟩=some (.int .i64 (sg d.l f).lo)/\W.cell? ⟨g,u*3+1,none⟩=some (.int .i64 (sg d.l u).hi)
structure Ab (w:World) (p q r:Nat) (d:Dd) (X:Dx) (e:Ed) (W:World):Prop where
 da:DAt w p d X W
 eb:EB W q e
 rb:Db10 W r zD10 zDx
 ne:w.heap.size<=p/\p<q/\q<r
 of:∀ z,w.heap.size<=z->DOff d X z
section
variable {w W W' : World} {p q r:Nat} {d:Dd} {X:Dx} {e:Ed}
end
structure Nx (w:World) (p q r:Nat) (d:Dd) (X:Dx) (e:Ed) (oL oF:Option Value) (oX:Option Nat) (W:World):Prop where
 ab:Ab w p q r d X e W
 fl:∀ v,oL=some v->W.ownsRow (r+1) 113 3 v d.l.length (scs d.l)
 ff:∀ v,oF=some v->W.ownsRow (r+1) 3 1 v d.F.length (ics d.F)
 fx:∀ x,oX=some x->Db10 W x zD10 zDx/\r<x
 d1:∀ u v,oL=some u->oF=some v->∀ k,u.ownBlock=some k->v.ownBlock≠some k
 d2:∀ u x,oL=some u->oX=some x->∀ k,u.ownBlock=some k->k≠x
 d3:∀ u x,oF=some u->oX=some x->∀ k,u.ownBlock=some k->k≠x
section
variable {w W W' : World} {p q r:Nat} {d:Dd} {X:Dx} {e:Ed} {a b:Option Value} {c:Option Nat}
end
section
variable {w W W' : World} {p q r:Nat} {d:Dd} {X:Dx} {e:Ed} {A A2:Option Addr} {c c2:Nat}
end
structure DnAt (w:World) (B g p:Nat) (d:Dd) (X:Dx) (oz:Option Nat) (W:World):Prop where
 ds:DsAt w B g p d X W
 zb:∀ z,oz=some z->Db10 W z zD10 zDx/\z≠g/\z≠p/\w.heap.size<=z/\DOff d X z
section
variable {w W W' : World} {B g p:Nat} {d:Dd} {X:Dx} {oz:Option Nat}
end
section
variable {w W W' : World} {B g p:Nat} {d d' : Dd} {X Y:Dx}
end
abbrev K5 (p q:Nat) (d:Dd) (X:Dx) (e:Ed) (W:World):Prop:=K3 p d X W/\W.cell? ⟨q,1,none⟩=some (.int .i64 e.fr)/\W.cell? ⟨q,2,none⟩=some (.int .i64 e.to)
structure Rz (w:World) (p q r y:Nat) (d:Dd) (X:Dx) (e:Ed) (L:List Sp) (F:List Int) (Y:Dx) (W:World):Prop where
 ab:Ab w p q r d X e W
 xb:Db10 W y ⟨d.vn+1,L,F⟩ Y
 ol:W.ownsRow (r+1) 113 3 (.slice Y.A L.length Y.c) L.length (scs L)
 of:W.ownsRow (r+1) 3 1 (.slice Y.A2 F.length Y.c2) F.length (ics F)
 d1:∀ k,(Value.slice Y.A L.length Y.c).ownBlock=some k->(Value.slice Y.A2 F.length Y.c2).ownBlock≠some k
 d2:∀ k,(Value.slice Y.A L.length Y.c).ownBlock=some k->k≠y
 d3:∀ k,(Value.slice Y.A2 F.length Y.c2).ownBlock=some k->k≠y
 ry:r<y
section
variable {w W W' : World} {p q r y:Nat} {d:Dd} {X Y:Dx} {e:Ed} {L:List Sp} {F:List Int} {A2:Option Addr} {c2:Nat}
end
section
variable {w W W' : World} {p q r y:Nat} {d:Dd} {X Y:Dx} {e:Ed} {L L' : List Sp} {F:List Int} {A:Option Addr} {c:Nat} {ob:Option Nat}
end
def s12 (M:Sp) (e:Ed):List Sp:=[⟨M.lo,e.md,e.fr⟩,⟨e.md+1,M.hi,e.to⟩]
structure Rs (w:World) (p q r y u:Nat) (d:Dd) (X:Dx) (e:Ed) (F:List Int) (Y:Dx) (i:Nat) (M:Sp) (oA:Option Value) (oB:Option Nat) (W:World):Prop where
 rz:Rz w p q r y d X e [] F Y W
 u0:W.cell? ⟨u,0,none⟩=some (.int .i64 M.lo)
 u1:W.cell? ⟨u,1,none⟩=some (.int .i64 M.hi)
 ul:u<W.heap.size
 yu:y<u
 fa:∀ v,oA=some v->W.ownsRow (r+1) 113 3 v i (scs (d.l.take i))/\∀ k,v.ownBlock=some k->u<k/\(Value.slice Y.A2 F.length Y.c2).ownBlock≠some k
 fb:∀ b,oB=some b->Rd W W.heap.size 3 (some ⟨b,0,none⟩) 2 (scs (s12 M e))
abbrev K9 (p q u:Nat) (d:Dd) (X:Dx) (e:Ed) (M:Sp) (W:World):Prop:=(W.cell? ⟨p,0,none⟩=some (.int .i64 d.vn)/\W.cell? ⟨p,1,none⟩=some (.slice X.A d.l.length X.c)/\W.cell? ⟨p,2,none⟩=some (.slice X.A2 d.F.length X.c2))/\W.cell? ⟨q,1,none⟩=some (.int .i64 e.fr)/\W.cell? ⟨q,2,none⟩=some (.int .i64 e.to)/\W.cell? ⟨q,3,none⟩=some (.int .i64 e.md)/\W.cell? ⟨u,0,none⟩=some (.int .i64 M.lo)/\W.cell? ⟨u,1,none⟩=some (.int .i64 M.hi)
section
variable {w W W' : World} {p q r y u i:Nat} {d:Dd} {X Y:Dx} {e:Ed} {F:List Int} {M:Sp} {oA:Option Value} {oB:Option Nat}
end
def s1m (M N:Sp) (e:Ed):List Sp:=[⟨M.lo,N.hi,e.to⟩]
structure Rm (w:World) (p q r y:Nat) (d:Dd) (X:Dx) (e:Ed) (F:List Int) (Y:Dx) (i:Nat) (M N:Sp) (oA:Option Value) (oB:Option Nat) (W:World):Prop where
 rz:Rz w p q r y d X e [] F Y W
 fa:∀ v,oA=some v->W.ownsRow (r+1) 113 3 v i (scs (d.l.take i))/\∀ k,v.ownBlock=some k->y<k/\(Value.slice Y.A2 F.length Y.c2).ownBlock≠some k
 fb:∀ b,oB=some b->Rd W W.heap.size 3 (some ⟨b,0,none⟩) 1 (scs (s1m M N e))
section
variable {w W W' : World} {p q r y i b o1 o2:Nat} {d:Dd} {X Y:Dx} {e:Ed} {F:List Int} {M N:Sp} {oA:Option Value} {oB:Option Nat}
end
end Go.Proofs.YtkecnihgjepfeaaGreat
