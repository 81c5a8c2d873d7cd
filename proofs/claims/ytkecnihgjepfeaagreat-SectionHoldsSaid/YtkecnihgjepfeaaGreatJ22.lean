/- What is proved here: parts of the proof: Shp Mdv Shq Ssa Shl Sral. -/
import Derived.Test.YtkecnihgjepfeaaGreatJ21
/- Plain: what pushes, releases, grants and extensions make of a valid live shard. -/
namespace Go.Proofs.YtkecnihgjepfeaaGreat
open Go.RowKit
set_option linter.unusedVariables false
set_option linter.unusedSimpArgs false
set_option maxHeartbeats 8000000
set_option maxRecDepth 20000
def Vs.push (V:Vs) (M:Msg):Vs:=⟨V.lo,V.hi,V.n,V.hd,V.L++[M],V.l,V.h⟩
def Vs.front (V:Vs) (M:Msg):Vs:=⟨V.lo,V.hi,V.n,(V.hd+(V.n - 1)) % V.n,M::V.L,V.l,V.h⟩
noncomputable def Vs.rel (V:Vs) (id:Int):Vs:=⟨V.lo,V.hi,V.n,V.hd,V.L,rlL V.l V.h id,rlH V.l V.h id⟩
noncomputable def Vs.gr (V:Vs) (x:Le):Vs:=⟨V.lo,V.hi,V.n,V.hd,V.L,grL V.l V.h x,grH V.l V.h x⟩
structure Fits (V:Vs) (M:Msg):Prop where
 vf:vf M=0
 own:V.lo<=M.rt/\M.rt<=V.hi
 room:V.L.length+V.l.length<V.n
 new:∀ N∈V.al,N.id≠M.id
section
variable {V:Vs} {M:Msg} {x:Le} {id dl:Int}
end
end Go.Proofs.YtkecnihgjepfeaaGreat
namespace Go.Proofs.YtkecnihgjepfeaaGreat
open Go.RowKit
set_option linter.unusedVariables false
set_option linter.unusedSimpArgs false
set_option maxHeartbeats 8000000
set_option maxRecDepth 20000
def dlE (M:Msg):Int:=if vf M=0 then (if M.gn=65536 then 6 else if M.ct=8 then 7 else 0) else vf M
def dlM (M:Msg):Msg:=if dlE M=0 then ⟨M.id,M.rt,M.ep,M.ct+1,M.gn+1,M.st,M.bd⟩ else zM
end Go.Proofs.YtkecnihgjepfeaaGreat
/- Plain: picking the first messages that are wanted; granting them. -/
namespace Go.Proofs.YtkecnihgjepfeaaGreat
open Go.RowKit
set_option linter.unusedVariables false
set_option linter.unusedSimpArgs false
set_option maxHeartbeats 8000000
set_option maxRecDepth 20000
def pkS (mx:Nat) (p:Msg->Bool) (s:List Msg×List Msg) (M:Msg):List Msg×List Msg:=if s.1.length<mx/\p M=true then (s.1++[M],s.2) else (s.1,s.2++[M])
def pk (mx:Nat) (p:Msg->Bool) (L:List Msg):List Msg×List Msg:=L.foldl (pkS mx p) ([],[])
section
variable {mx:Nat} {p:Msg->Bool} {L:List Msg} {M:Msg} {i:Nat}
end
def Vs.ring (V:Vs) (L:List Msg):Vs:=⟨V.lo,V.hi,V.n,V.hd,L,V.l,V.h⟩
noncomputable def Vs.grs (dl:Int) (V:Vs) (T:List Msg):Vs:=T.foldl (fun V M=>V.gr ⟨dlM M,dl⟩) V
noncomputable def Vs.take (V:Vs) (mx:Nat) (p:Msg->Bool) (dl:Int):Vs:=(V.ring (pk mx p V.L).2).grs dl (pk mx p V.L).1
section
variable {V:Vs} {dl:Int}
end
end Go.Proofs.YtkecnihgjepfeaaGreat
namespace Go.Proofs.YtkecnihgjepfeaaGreat
open Go.RowKit
set_option linter.unusedVariables false
set_option linter.unusedSimpArgs false
set_option maxHeartbeats 8000000
set_option maxRecDepth 20000
def frS (k:Nat):Sh:=⟨false,0,0,nwC k,0,0,[],[]⟩
theorem fr_va {k:Nat} (h1:1<=k) (h2:k<=12):shV (frS k)=0:=by
 obtain ⟨e1,e2⟩:=nwC_fil h1 h2 0 (by omega)
 have r:rgV (fil k 0 []) (0:Int) (0:Int)=0:=rgV_fil (l:=[]) (hd:=0) h1 h2 (by omega) (by simp) gd_nil
 unfold shV
 rw [if_neg (fun g=>g (by show rgV (nwC k) 0 0=0;rw [e1];exact r)),if_neg (fun g=>g ((tbV_iff [] []).2 TbOk.nil)),if_neg (show ¬(frS k).lv=true from fun h=>by cases h)]
 exact if_neg (show ¬((0:Int)≠0\/(0:Int)≠0\/(0:Int)<(0:Int)+(([]:List Le).length:Int)) by simp)
def SrSh (S:Sh):Prop:=(∃ V:Vs,V.Ok/\S=V.sh)\/∃ k:Nat,1<=k/\k<=12/\S=frS k
def CapAt (b1 b2:Nat) (ep lim:Int) (W:World):Prop:=W.cell? ⟨b1,0,none⟩=some (.int .i64 ep)/\W.cell? ⟨b2,0,none⟩=some (.int .i64 lim)/\b1<W.heap.size/\b2<W.heap.size
section
variable {V:Vs} {mx:Nat} {f:Msg->Bool} {i:Nat}
end
theorem Ls.grownR {W W' : World} {B n c:Nat} {A:Option Addr} {l:List Msg} (h:Ls W B (.slice A n c) l) (hB:B<=W.heap.size) {row:Option Nat} (hg:W.grownBy W' row) (ho:∀ q,row=some q->OffB q n A):Ls W' B (.slice A n c) l:=by
 obtain ⟨h1,h2,h3⟩:=h.len
 subst h1
 refine ⟨A,c,rfl,h2,h3,h.rd.1,fun hn=>?_⟩
 obtain ⟨b,o,e,hb,hc⟩:=h.rd.2 hn
 exact ⟨b,o,e,hb,fun j u hu=>(hg.cell_far ⟨b,o+j,none⟩ (Nat.lt_of_lt_of_le hb hB) (fun e'=>ho b e'.symm hn _ e rfl)).trans (hc j u hu)⟩
theorem El.grownR {W W' : World} {B n c:Nat} {A:Option Addr} {l:List Le} (h:El W B (.slice A n c) l) (hB:B<=W.heap.size) {row:Option Nat} (hg:W.grownBy W' row) (ho:∀ q,row=some q->OffB q n A):El W' B (.slice A n c) l:=by
 obtain ⟨h1,h2,h3⟩:=h.len
 subst h1
 refine ⟨A,c,rfl,h2,h3,h.rd.1,fun hn=>?_⟩
 obtain ⟨b,o,e,hb,hc⟩:=h.rd.2 hn
 exact ⟨b,o,e,hb,fun j u hu=>(hg.cell_far ⟨b,o+j,none⟩ (Nat.lt_of_lt_of_le hb hB) (fun e'=>ho b e'.symm hn _ e rfl)).trans (hc j u hu)⟩
theorem Dl.grownR {W W' : World} {B n c:Nat} {A:Option Addr} {l:List Du} (h:Dl W B (.slice A n c) l) (hB:B<=W.heap.size) {row:Option Nat} (hg:W.grownBy W' row) (ho:∀ q,row=some q->OffB q n A):Dl W' B (.slice A n c) l:=by
 obtain ⟨h1,h2,h3⟩:=h.len
 subst h1
 refine ⟨A,c,rfl,h2,h3,h.rd.1,fun hn=>?_⟩
 obtain ⟨b,o,e,hb,hc⟩:=h.rd.2 hn
 exact ⟨b,o,e,hb,fun j u hu=>(hg.cell_far ⟨b,o+j,none⟩ (Nat.lt_of_lt_of_le hb hB) (fun e'=>ho b e'.symm hn _ e rfl)).trans (hc j u hu)⟩
structure PullAt (w:World) (p r B:Nat) (S:Sh) (D:Sx) (A0:Option Addr) (c0:Nat) (L:List Msg) (lv:Value) (T:List Msg) (W:World):Prop where
 sa:SAt w p S D W
 rs:SB8 W r zS zX
 l0:Ls W B (.slice A0 L.length c0) L
 o0:OffB p L.length A0
 own:W.ownsRow B 79 7 lv T.length (lcs T)
 dj:∀ q,lv.ownBlock=some q->SOff S D q
 dr:D.nw (r+1)
 ne:p<r/\r<B/\B<=W.heap.size
section
variable {w W W' : World} {p r B c0:Nat} {S:Sh} {D:Sx} {A0:Option Addr} {L T:List Msg} {lv:Value}
end
theorem Ls.upz {W W' : World} {L:List Msg} {v:Value} (h:Ls W W.heap.size v L) (hb:Below W.heap.size W W'):Ls W' W'.heap.size v L:=(h.below hb).more hb.size
structure AlAt (w:World) (p B:Nat) (S:Sh) (D:Sx) (L T:List Msg) (r4 r5 r7:Option Value) (W:World):Prop where
 sa:SAt w p S D W
 f4:∀ v,r4=some v->Ls W W.heap.size v L
 f5:∀ v,r5=some v->W.ownsRow B 79 7 v L.length (lcs L)
 f7:∀ v,r7=some v->Ls W W.heap.size v T
 z:W.ownsRow B 79 7 (.slice none 0 0) 0 []
 pb:p<B/\B<=W.heap.size
 off:∀ q,B<=q->SOff S D q
section
variable {w W W' : World} {p B:Nat} {S:Sh} {D:Sx} {L T:List Msg} {r4 r5 r7:Option Value} {v:Value}
end
end Go.Proofs.YtkecnihgjepfeaaGreat
