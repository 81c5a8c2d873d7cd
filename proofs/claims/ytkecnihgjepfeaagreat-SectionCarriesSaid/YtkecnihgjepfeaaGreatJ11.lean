/- What is proved here: parts of the proof: Shm Srd Sra Nsd Drm Dra. -/
import Derived.Test.YtkecnihgjepfeaaGreatJ10
import Derived.Test.YtkecnihgjepfeaaGreatJ01
/- Plain: shards in memory: where the lists of a shard lie, a box of the call's own that holds a shard. -/
namespace Go.Proofs.YtkecnihgjepfeaaGreat
open Go.RowKit
set_option linter.unusedVariables false
set_option linter.unusedSimpArgs false
set_option maxHeartbeats 8000000
set_option maxRecDepth 20000
abbrev sv (S:Sh) (D:Sx):Value:=.agg #[.bool S.lv,.int .i64 S.lo,.int .i64 S.hi,.slice D.A S.cs.length D.c,.int .i64 S.hd,.int .i64 S.sz,.slice D.A2 S.l.length D.c2,.slice D.A3 S.h.length D.c3]
structure SR (W:World) (B:Nat) (S:Sh) (D:Sx):Prop where
 ls:Ls W B (.slice D.A S.cs.length D.c) S.cs
 el:El W B (.slice D.A2 S.l.length D.c2) S.l
 dl:Dl W B (.slice D.A3 S.h.length D.c3) S.h
def OffB (p n:Nat) (A:Option Addr):Prop:=0<n->∀ a,A=some a->a.block≠p
theorem offb_none {p n:Nat}:OffB p n none:=fun _ a h=>by cases h
theorem offb_nw {p n lo:Nat} {A:Option Addr} (h:Nw lo A) (hp:p<lo):OffB p n A:=fun _ a e=>by have:=h a e;omega
structure SOff (S:Sh) (D:Sx) (p:Nat):Prop where
 o1:OffB p S.cs.length D.A
 o2:OffB p S.l.length D.A2
 o3:OffB p S.h.length D.A3
structure Sx.nw (D:Sx) (lo:Nat):Prop where
 n1:Nw lo D.A
 n2:Nw lo D.A2
 n3:Nw lo D.A3
theorem Sx.nw.off {S:Sh} {D:Sx} {lo p:Nat} (h:D.nw lo) (hp:p<lo):SOff S D p:=⟨offb_nw h.n1 hp,offb_nw h.n2 hp,offb_nw h.n3 hp⟩
theorem Sx.nw.low {D:Sx} {lo lo' : Nat} (h:D.nw lo) (hp:lo'<=lo):D.nw lo':=⟨nw_low h.n1 hp,nw_low h.n2 hp,nw_low h.n3 hp⟩
def zX:Sx:=⟨none,0,none,0,none,0⟩
theorem zX_nw (lo:Nat):zX.nw lo:=⟨nw_none,nw_none,nw_none⟩
section
variable {W W' : World} {B B' : Nat} {S:Sh} {D:Sx}
theorem SR.below (h:SR W B S D) (hb:Below B W W'):SR W' B S D:=⟨h.ls.below hb,h.el.below hb,h.dl.below hb⟩
theorem SR.more (h:SR W B S D) (hB:B<=B'):SR W B' S D:=⟨h.ls.more hB,h.el.more hB,h.dl.more hB⟩
theorem SR.up (h:SR W W.heap.size S D) (hb:Below W.heap.size W W'):SR W' W'.heap.size S D:=(h.below hb).more hb.size
theorem SR.zero:SR W B zS zX:=⟨Ls.nil,El.nil,Dl.nil⟩
theorem rd_off {size n:Nat} {A:Option Addr} {xs:List Value} (h:Rd W B size A n xs) {p:Nat} (hp:B<=p):OffB p n A:=fun hn a e=>by
 obtain ⟨b,o,e2,hb,_⟩:=h.2 hn
 rw [e2] at e;injection e with e;subst e;show b≠p;omega
theorem Rd.offp {size n:Nat} {A:Option Addr} {xs:List Value} (h:Rd W B size A n xs) {p:Addr} (ho:OffB p.block n A) (v:Value):Rd (W.setCell p v) B size A n xs:=
 ⟨h.1,fun hn=>by
  obtain ⟨b,o,e,hb,hc⟩:=h.2 hn
  have:=ho hn _ e
  exact ⟨b,o,e,hb,fun j u hu=>(World.cell?_setCell_other W p _ v (fun e'=>by have e2:=congrArg Addr.block e';simp at e2 this;omega)).trans (hc j u hu)⟩⟩
theorem Ls.offp {A:Option Addr} {n c:Nat} {l:List Msg} (h:Ls W B (.slice A n c) l) {p:Addr} (ho:OffB p.block n A) (v:Value):Ls (W.setCell p v) B (.slice A n c) l:=by
 obtain ⟨h1,h2,h3⟩:=h.len
 subst h1
 exact ⟨A,c,rfl,h2,h3,h.rd.offp ho v⟩
theorem El.offp {A:Option Addr} {n c:Nat} {l:List Le} (h:El W B (.slice A n c) l) {p:Addr} (ho:OffB p.block n A) (v:Value):El (W.setCell p v) B (.slice A n c) l:=by
 obtain ⟨h1,h2,h3⟩:=h.len
 subst h1
 exact ⟨A,c,rfl,h2,h3,h.rd.offp ho v⟩
theorem Dl.offp {A:Option Addr} {n c:Nat} {l:List Du} (h:Dl W B (.slice A n c) l) {p:Addr} (ho:OffB p.block n A) (v:Value):Dl (W.setCell p v) B (.slice A n c) l:=by
 obtain ⟨h1,h2,h3⟩:=h.len
 subst h1
 exact ⟨A,c,rfl,h2,h3,h.rd.offp ho v⟩
theorem SR.offp (h:SR W B S D) {p:Addr} (ho:SOff S D p.block) (v:Value):SR (W.setCell p v) B S D:=⟨h.ls.offp ho.o1 v,h.el.offp ho.o2 v,h.dl.offp ho.o3 v⟩
end
structure SB8 (W:World) (p:Nat) (S:Sh) (D:Sx):Prop where
 c0:W.cell? ⟨p,0,none⟩=some (.bool S.lv)
 c1:W.cell? ⟨p,1,none⟩=some (.int .i64 S.lo)
 c2:W.cell? ⟨p,2,none⟩=some (.int .i64 S.hi)
 c3:W.cell? ⟨p,3,none⟩=some (.slice D.A S.cs.length D.c)
 c4:W.cell? ⟨p,4,none⟩=some (.int .i64 S.hd)
 c5:W.cell? ⟨p,5,none⟩=some (.int .i64 S.sz)
 c6:W.cell? ⟨p,6,none⟩=some (.slice D.A2 S.l.length D.c2)
 c7:W.cell? ⟨p,7,none⟩=some (.slice D.A3 S.h.length D.c3)
 fr:∀ o,W.frozen? ⟨p,o,none⟩=false
 lt:p<W.heap.size
section
variable {W W' : World} {p:Nat} {S:Sh} {D:Sx}
theorem SB8.keep (h:SB8 W p S D) (hc:∀ o,W'.cell? ⟨p,o,none⟩=W.cell? ⟨p,o,none⟩) (hf:∀ o,W'.frozen? ⟨p,o,none⟩=W.frozen? ⟨p,o,none⟩) (hs:W.heap.size<=W'.heap.size):SB8 W' p S D:=
 ⟨(hc 0).trans h.c0,(hc 1).trans h.c1,(hc 2).trans h.c2,(hc 3).trans h.c3,(hc 4).trans h.c4,(hc 5).trans h.c5,(hc 6).trans h.c6,(hc 7).trans h.c7,fun o=>(hf o).trans (h.fr o),Nat.lt_of_lt_of_le h.lt hs⟩
theorem SB8.below {B:Nat} (h:SB8 W p S D) (hb:Below B W W') (hp:p<B):SB8 W' p S D:=h.keep (fun o=>hb.cell (p:=⟨p,o,none⟩) hp) (fun o=>hb.frozen (p:=⟨p,o,none⟩) hp) hb.size
theorem SB8.up (h:SB8 W p S D) (hb:Below W.heap.size W W'):SB8 W' p S D:=h.below hb h.lt
theorem SB8.other (h:SB8 W p S D) {q:Addr} (hq:q.block≠p) (v:Value):SB8 (W.setCell q v) p S D:=
 h.keep (fun o=>World.cell?_setCell_other W q _ v (fun e=>hq (by rw [e]))) (fun o=>by rw [World.frozen?_setCell]) (by simp)
theorem SB8.start (w:World) (S:Sh) (D:Sx) (t:TypeId):SB8 (w.alloc (.cells #[.bool S.lv,.int .i64 S.lo,.int .i64 S.hi,.slice D.A S.cs.length D.c,.int .i64 S.hd,.int .i64 S.sz,.slice D.A2 S.l.length D.c2,.slice D.A3 S.h.length D.c3] t)) w.heap.size S D:=
 ⟨by simp [go_sem],by simp [go_sem],by simp [go_sem],by simp [go_sem],by simp [go_sem],by simp [go_sem],by simp [go_sem],by simp [go_sem],fun o=>by simp [go_sem],by simp⟩
theorem SB8.zero (w:World) (t:TypeId):SB8 (w.alloc (.cells #[.bool false,.int .i64 0,.int .i64 0,.slice none 0 0,.int .i64 0,.int .i64 0,.slice none 0 0,.slice none 0 0] t)) w.heap.size zS zX:=SB8.start w zS zX t
theorem SB8.facts (h:SB8 W p S D):W.cell? ⟨p,0,none⟩=some (.bool S.lv)/\W.cell? ⟨p,1,none⟩=some (.int .i64 S.lo)/\W.cell? ⟨p,2,none⟩=some (.int .i64 S.hi)/\W.cell? ⟨p,3,none⟩=some (.slice D.A S.cs.length D.c)/\W.cell? ⟨p,4,none⟩=some (.int .i64 S.hd)/\W.cell? ⟨p,5,none⟩=some (.int .i64 S.sz)/\W.cell? ⟨p,6,none⟩=some (.slice D.A2 S.l.length D.c2)/\W.cell? ⟨p,7,none⟩=some (.slice D.A3 S.h.length D.c3)/\p<W.heap.size:=
 ⟨h.c0,h.c1,h.c2,h.c3,h.c4,h.c5,h.c6,h.c7,h.lt⟩
theorem SB8.free (h:SB8 W p S D):W.frozen? ⟨p,0,none⟩=false/\W.frozen? ⟨p,1,none⟩=false/\W.frozen? ⟨p,2,none⟩=false/\W.frozen? ⟨p,3,none⟩=false/\W.frozen? ⟨p,4,none⟩=false/\W.frozen? ⟨p,5,none⟩=false/\W.frozen? ⟨p,6,none⟩=false/\W.frozen? ⟨p,7,none⟩=false:=
 ⟨h.fr 0,h.fr 1,h.fr 2,h.fr 3,h.fr 4,h.fr 5,h.fr 6,h.fr 7⟩
theorem addr_ne {p a b:Nat} (h:a≠b):(⟨p,a,none⟩:Addr)≠⟨p,b,none⟩:=fun e=>h (by injection e)
abbrev set8s (W:World) (p:Nat) (S:Sh) (D:Sx):World:=(((((((W.setCell ⟨p,0,none⟩ (.bool S.lv)).setCell ⟨p,1,none⟩ (.int .i64 S.lo)).setCell ⟨p,2,none⟩ (.int .i64 S.hi)).setCell ⟨p,3,none⟩ (.slice D.A S.cs.length D.c)).setCell ⟨p,4,none⟩ (.int .i64 S.hd)).setCell ⟨p,5,none⟩ (.int .i64 S.sz)).setCell ⟨p,6,none⟩ (.slice D.A2 S.l.length D.c2)).setCell ⟨p,7,none⟩ (.slice D.A3 S.h.length D.c3)
def Sh.l8 (S:Sh) (D:Sx):List Value:=[.bool S.lv,.int .i64 S.lo,.int .i64 S.hi,.slice D.A S.cs.length D.c,.int .i64 S.hd,.int .i64 S.sz,.slice D.A2 S.l.length D.c2,.slice D.A3 S.h.length D.c3]
theorem set8s_below {B:Nat} {a:World} (hp:B<=p) (h:Below B a W) (S:Sh) (D:Sx):Below B a (set8s W p S D):=sets_below hp (S.l8 D) 0 W h
end
structure SAt (w:World) (p:Nat) (S:Sh) (D:Sx) (W:World):Prop where
 s8:SB8 W p S D
 sr:SR W W.heap.size S D
 off:SOff S D p
 bel:Below w.heap.size w W
 old:w.heap.size<=p
theorem SR.offs {w:World} {S:Sh} {D:Sx} {B p:Nat} (h:SR w B S D) (hp:B<=p):SOff S D p:=⟨rd_off h.ls.rd hp,rd_off h.el.rd hp,rd_off h.dl.rd hp⟩
section
variable {w W W' : World} {p:Nat} {S:Sh} {D:Sx}
theorem SAt.below (h:SAt w p S D W) (hb:Below W.heap.size W W'):SAt w p S D W':=⟨h.s8.up hb,h.sr.up hb,h.off,h.bel.trans (hb.mono h.bel.size),h.old⟩
theorem SAt.alloc (h:SAt w p S D W) (o:Obj):SAt w p S D (W.alloc o):=h.below ((Below.refl _ _).alloc (nLR _) o)
theorem SAt.drew (h:SAt w p S D W):SAt w p S D W.drew:=h.below ((Below.refl _ _).drew)
theorem SAt.start (t:TypeId) (h:SR w w.heap.size S D):SAt w w.heap.size S D (w.alloc (.cells #[.bool S.lv,.int .i64 S.lo,.int .i64 S.hi,.slice D.A S.cs.length D.c,.int .i64 S.hd,.int .i64 S.sz,.slice D.A2 S.l.length D.c2,.slice D.A3 S.h.length D.c3] t)):=
 ⟨SB8.start w S D t,h.up ((Below.refl _ _).alloc (nLR _) _),h.offs (nLR _),(Below.refl _ _).alloc (nLR _) _,nLR _⟩
theorem SR.sets (ho:SOff S D p):∀ (vs:List Value) (m:Nat) (W:World),SR W W.heap.size S D->SR (W.setCells p m vs) (W.setCells p m vs).heap.size S D
 | [],_,_,h=>h
 | v::r,m,W,h=>SR.sets ho r (m+1) _ ((h.offp (p:=⟨p,m,none⟩) ho v).more (by simp))
theorem SAt.setA (h:SAt w p S D W) {A:Option Addr} {c:Nat} (hl:Ls W W.heap.size (.slice A S.cs.length c) S.cs) (ho:OffB p S.cs.length A):SAt w p S ⟨A,c,D.A2,D.c2,D.A3,D.c3⟩ (W.setCell ⟨p,3,none⟩ (.slice A S.cs.length c)):=by
 have g:∀ (j:Nat) (v:Value),j≠3->W.cell? ⟨p,j,none⟩=some v->(W.setCell ⟨p,3,none⟩ (.slice A S.cs.length c)).cell? ⟨p,j,none⟩=some v:=fun j v h3 e=>by
  rw [World.cell?_setCell_other _ _ _ _ (addr_ne h3.symm)];exact e
 exact ⟨⟨g 0 _ (by decide) h.s8.c0,g 1 _ (by decide) h.s8.c1,g 2 _ (by decide) h.s8.c2,by rw [World.cell?_setCell_same' _ _ _ (by rw [h.s8.c3];rfl)],g 4 _ (by decide) h.s8.c4,g 5 _ (by decide) h.s8.c5,g 6 _ (by decide) h.s8.c6,g 7 _ (by decide) h.s8.c7,fun o=>by rw [World.frozen?_setCell];exact h.s8.fr o,by simpa using h.s8.lt⟩,
  ⟨(hl.offp (p:=⟨p,3,none⟩) ho _).more (by simp),(h.sr.el.offp (p:=⟨p,3,none⟩) h.off.o2 _).more (by simp),(h.sr.dl.offp (p:=⟨p,3,none⟩) h.off.o3 _).more (by simp)⟩,⟨ho,h.off.o2,h.off.o3⟩,h.bel.setCell (p:=⟨p,3,none⟩) h.old _,h.old⟩
theorem SAt.setL (h:SAt w p S D W) {A:Option Addr} {c:Nat} (hl:El W W.heap.size (.slice A S.l.length c) S.l) (ho:OffB p S.l.length A):SAt w p S ⟨D.A,D.c,A,c,D.A3,D.c3⟩ (W.setCell ⟨p,6,none⟩ (.slice A S.l.length c)):=by
 have g:∀ (j:Nat) (v:Value),j≠6->W.cell? ⟨p,j,none⟩=some v->(W.setCell ⟨p,6,none⟩ (.slice A S.l.length c)).cell? ⟨p,j,none⟩=some v:=fun j v h3 e=>by
  rw [World.cell?_setCell_other _ _ _ _ (addr_ne h3.symm)];exact e
 exact ⟨⟨g 0 _ (by decide) h.s8.c0,g 1 _ (by decide) h.s8.c1,g 2 _ (by decide) h.s8.c2,g 3 _ (by decide) h.s8.c3,g 4 _ (by decide) h.s8.c4,g 5 _ (by decide) h.s8.c5,by rw [World.cell?_setCell_same' _ _ _ (by rw [h.s8.c6];rfl)],g 7 _ (by decide) h.s8.c7,fun o=>by rw [World.frozen?_setCell];exact h.s8.fr o,by simpa using h.s8.lt⟩,
  ⟨(h.sr.ls.offp (p:=⟨p,6,none⟩) h.off.o1 _).more (by simp),(hl.offp (p:=⟨p,6,none⟩) ho _).more (by simp),(h.sr.dl.offp (p:=⟨p,6,none⟩) h.off.o3 _).more (by simp)⟩,⟨h.off.o1,ho,h.off.o3⟩,h.bel.setCell (p:=⟨p,6,none⟩) h.old _,h.old⟩
theorem SAt.setH (h:SAt w p S D W) {A:Option Addr} {c:Nat} (hl:Dl W W.heap.size (.slice A S.h.length c) S.h) (ho:OffB p S.h.length A):SAt w p S ⟨D.A,D.c,D.A2,D.c2,A,c⟩ (W.setCell ⟨p,7,none⟩ (.slice A S.h.length c)):=by
 have g:∀ (j:Nat) (v:Value),j≠7->W.cell? ⟨p,j,none⟩=some v->(W.setCell ⟨p,7,none⟩ (.slice A S.h.length c)).cell? ⟨p,j,none⟩=some v:=fun j v h3 e=>by
  rw [World.cell?_setCell_other _ _ _ _ (addr_ne h3.symm)];exact e
 exact ⟨⟨g 0 _ (by decide) h.s8.c0,g 1 _ (by decide) h.s8.c1,g 2 _ (by decide) h.s8.c2,g 3 _ (by decide) h.s8.c3,g 4 _ (by decide) h.s8.c4,g 5 _ (by decide) h.s8.c5,g 6 _ (by decide) h.s8.c6,by rw [World.cell?_setCell_same' _ _ _ (by rw [h.s8.c7];rfl)],fun o=>by rw [World.frozen?_setCell];exact h.s8.fr o,by simpa using h.s8.lt⟩,
  ⟨(h.sr.ls.offp (p:=⟨p,7,none⟩) h.off.o1 _).more (by simp),(h.sr.el.offp (p:=⟨p,7,none⟩) h.off.o2 _).more (by simp),(hl.offp (p:=⟨p,7,none⟩) ho _).more (by simp)⟩,⟨h.off.o1,h.off.o2,ho⟩,h.bel.setCell (p:=⟨p,7,none⟩) h.old _,h.old⟩
theorem SAt.lt (h:SAt w p S D W):p<W.heap.size:=h.s8.lt
end
def SV (w:World) (S:Sh) (e:Ending) (w' : World):Prop:=∃ D,e=.returned (sv S D)/\D.nw w.heap.size/\SR w' w'.heap.size S D/\Below w.heap.size w w'
def SE (w:World) (S:Sh) (x:Int) (e:Ending) (w' : World):Prop:=∃ D,e=.returned (.tuple #[sv S D,.int .i64 x])/\D.nw w.heap.size/\SR w' w'.heap.size S D/\Below w.heap.size w w'
end Go.Proofs.YtkecnihgjepfeaaGreat
namespace Go.Proofs.YtkecnihgjepfeaaGreat
open Go.RowKit
set_option linter.unusedVariables false
set_option linter.unusedSimpArgs false
set_option maxHeartbeats 8000000
set_option maxRecDepth 20000
def i64v (z:Int):Value:=.int .i64 z
def SrcAt (W:World) (B g:Nat):Prop:=B<=g/\g<W.heap.size/\∃ (A:Option Addr) (n c k:Nat) (zs:List Int),
 k<=n/\n<=4000/\n<=c/\c<=maxLen/\W.cell? ⟨g,0,none⟩=some (.slice A n c)/\W.cell? ⟨g,1,none⟩=some (.int .i64 k)/\W.frozen? ⟨g,1,none⟩=false/\Rd W B 1 A n (zs.map i64v)/\∀ z∈zs,-9223372036854775808<=z/\z<=9223372036854775807
section
variable {W W' : World} {B g h:Nat}
theorem SrcAt.keep (s:SrcAt W B g) (hs:W.heap.size<=W'.heap.size) (h0:∀ o,W'.cell? ⟨g,o,none⟩=W.cell? ⟨g,o,none⟩) (h1:∀ o,W'.frozen? ⟨g,o,none⟩=W.frozen? ⟨g,o,none⟩) (hk:∀ p:Addr,p.block<B->W'.cell? p=W.cell? p):SrcAt W' B g:=by
 obtain ⟨hB,hg,A,n,c,k,zs,a1,a2,a3,a4,a5,a6,a7,a8,a9⟩:=s
 exact ⟨hB,by omega,A,n,c,k,zs,a1,a2,a3,a4,(h0 0).trans a5,(h0 1).trans a6,(h1 1).trans a7,a8.keep hk,a9⟩
theorem SrcAt.below (s:SrcAt W B g) (hb:Below W.heap.size W W'):SrcAt W' B g:=
 s.keep hb.size (fun o=>hb.cell s.2.1) (fun o=>hb.frozen s.2.1) (fun p hp=>hb.cell (by have:=s.1;have:=s.2.1;omega))
theorem SrcAt.alloc (s:SrcAt W B g) (o:Obj):SrcAt (W.alloc o) B g:=s.below ((Below.refl _ _).alloc (nLR _) o)
theorem SrcAt.drew (s:SrcAt W B g):SrcAt W.drew B g:=s
theorem SrcAt.drewN (s:SrcAt W B g) (n:Nat):SrcAt (W.drewN n) B g:=s
theorem SrcAt.other (s:SrcAt W B g) {p:Addr} (hp:p.block≠g) (hB:B<=p.block) (v:Value):SrcAt (W.setCell p v) B g:=
 s.keep (by simp) (fun o=>World.cell?_setCell_other W p _ v (fun e=>hp (by rw [e]))) (fun o=>by rw [World.frozen?_setCell]) (fun q hq=>World.cell?_setCell_other W p q v (fun e=>by rw [e] at hB;omega))
theorem SrcAt.next (s:SrcAt W B g) {A:Option Addr} {n c k:Nat} (h0:W.cell? ⟨g,0,none⟩=some (.slice A n c)) (h1:W.cell? ⟨g,1,none⟩=some (.int .i64 k)) (hk:k<n):SrcAt (W.setCell ⟨g,1,none⟩ (.int .i64 ((k:Int)+1))) B g:=by
 obtain ⟨hB,hg,A',n',c',k',zs,a1,a2,a3,a4,a5,a6,a7,a8,a9⟩:=s
 rw [h0] at a5
 injection a5 with a5
 injection a5 with e1 e2 e3
 subst e1;subst e2;subst e3
 refine ⟨hB,by simpa using hg,A,n,c,k+1,zs,by omega,a2,a3,a4,(World.cell?_setCell_other W _ _ _ (fun e=>by injection e;omega)).trans h0,?_,by rw [World.frozen?_setCell];exact a7,a8.setCell hB _,a9⟩
 simp [go_sem,h1]
theorem only_drewN {a w:World} {row:Option Nat} (h:a.grownBy w row) (n:Nat):a.grownBy (w.drewN n) row:=⟨h.os,h.tape,h.output,h.size,h.block⟩
theorem gdrew {w w' : World} {row:Option Nat} (h:w.drew.grownBy w' row):w.grownBy w' row:=⟨h.os,h.tape,h.output,h.size,h.block⟩
theorem only_alloc {a w:World} {row:Option Nat} (h:a.grownBy w row) (o:Obj):a.grownBy (w.alloc o) row:=
 ⟨h.os,h.tape,h.output,Nat.le_trans h.size (by simp),fun i hi hne=>(Below.heap_alloc w o i (Nat.lt_of_lt_of_le hi h.size)).trans (h.block i hi hne)⟩
theorem only_set {a w:World} {g:Nat} (h:a.grownBy w (some g)) {p:Addr} (hp:p.block=g\/a.heap.size<=p.block) (u:Value):a.grownBy (w.setCell p u) (some g):=
 ⟨h.os,h.tape,h.output,by simpa [World.setCell] using h.size,fun i hi hne=>(Below.heap_setCell w p u i (by
  rintro rfl
  rcases hp with hp | hp
  ·exact hne (by rw [hp])
  ·omega)).trans (h.block i hi hne)⟩
theorem only_below {a w w' : World} {g:Nat} (h:a.grownBy w (some g)) (hb:Below w.heap.size w w'):a.grownBy w' (some g):=
 ⟨hb.os.trans h.os,hb.tape.trans h.tape,hb.output.trans h.output,Nat.le_trans h.size hb.size,fun i hi hne=>(hb.block i (Nat.lt_of_lt_of_le hi h.size)).trans (h.block i hi hne)⟩
end
def SrInt (B g:Nat) (lo hi:Int) (w:World) (e:Ending) (w' : World):Prop:=∃ x,e=.returned (.int .i64 x)/\lo<=x/\x<=hi/\SrcAt w' B g/\w.grownBy w' (some g)
theorem raw_any (B g:Nat) (w:World) (h:SrcAt w B g):Calls Tryz.prog 28 #[.pointer (some ⟨g,0,none⟩)] w (SrInt B g (-9223372036854775808) 9223372036854775807 w):=by
 have H:=Lh h
 obtain ⟨hB,hg,A,n,c,k,zs,a1,a2,a3,a4,a5,a6,a7,a8,a9⟩:=h
 have HA:=Lh a8
 have HZ:=Lh a9
 have a2' : (n:Int)<=4000:=by omega
 clear hB hg a2 a3 a4 a8 a9
 by_cases hk:k<n
 ·have hk' : ¬((n:Int)<=(k:Int)):=by omega
  have hd:decide ((n:Int)<=(k:Int))=false:=decide_eq_false hk'
  obtain ⟨b,o,rfl,hb,hcell⟩:=HA.out.2 (by omega)
  have hzl:k<zs.length:=by have:=HA.out.1;simp at this;omega
  have hz:=HZ.out zs[k] (List.getElem_mem hzl)
  have hcz:=hcell k (i64v zs[k]) (by simp [hzl])
  unfold i64v at hcz
  generalize zs[k]=z at*
  have HZ2:=Lh hz
  have hne1:b≠g:=by have:=H.out.1;omega
  have hne2:g≠b:=fun e=>hne1 e.symm
  have hk63:(k:Int)<(n:Int):=by omega
  have hk0:(0:Int)<=(k:Int):=Int.natCast_nonneg _
  have hs:IntKind.i64.wrap ((k:Int)+1 - 1)=k:=by rw [IntWalk.i64_in _ (by omega)];omega
  clear hcell hzl hz
  go_enter Tryz.func28,Tryz.ntmps28
  go_wp2
  go_quiet (fail)
  go_wp2
  go_quiet (fail)
  go_wp2
  go_ret
  exact ⟨z,rfl,HZ2.out.1,HZ2.out.2,((H.out.drewN _).next a5 a6 (by omega)).drewN _,only_drewN (only_set (only_drewN (World.grownBy.refl _ _) _) (.inl rfl) _) _⟩
 ·have hk' : (n:Int)<=(k:Int):=by omega
  have hd:decide ((n:Int)<=(k:Int))=true:=decide_eq_true hk'
  go_enter Tryz.func28,Tryz.ntmps28
  go_wp2
  go_quiet (fail)
  go_wp2
  go_ret
  exact ⟨0,rfl,by omega,by omega,H.out.drewN _,only_drewN (World.grownBy.refl _ _) _⟩
theorem tmod_gt (x n:Int) (h:0<n):-n<x.tmod n:=by
 have h1:=Int.tmod_lt_of_pos (-x) h
 rw [Int.neg_tmod] at h1
 omega
theorem n_any (B g:Nat) (w:World) (h:SrcAt w B g) (n:Int) (h1:1<=n) (h2:n<=1073741824):Calls Tryz.prog 11 #[.pointer (some ⟨g,0,none⟩),.int .i64 n] w (SrInt B g 0 (n - 1) w):=by
 have HC:=Lh (raw_any B g w h)
 clear h
 go_enter Tryz.func11,Tryz.ntmps11
 go_wp2_with fail
 refine HC.out.mono ?_
 rintro e w1 ⟨x,rfl,hx1,hx2,hs,hg⟩
 have HS:=Lh hs
 have HG:=Lh hg
 have hr1:x.tmod n<n:=Int.tmod_lt_of_pos x (by omega)
 have hr2:-n<x.tmod n:=tmod_gt x n (by omega)
 clear hs hg
 by_cases hr:x.tmod n<0
 ·go_wp2
  go_ret
  exact ⟨x.tmod n+n,rfl,by omega,by omega,HS.out,HG.out⟩
 ·go_wp2
  go_ret
  exact ⟨x.tmod n,rfl,by omega,by omega,HS.out,HG.out⟩
def Ns (w:World) (B:Nat) (v:Value) (zs:List Int):Prop:=∃ A c,v=.slice A zs.length c/\zs.length<=c/\c<=maxLen/\Rd w B 1 A zs.length (zs.map i64v)/\∀ z∈zs,-9223372036854775808<=z/\z<=9223372036854775807
section
variable {w w' : World} {B B' : Nat} {v:Value} {zs:List Int}
theorem Ns.nil:Ns w B (.slice none 0 0) []:=⟨none,0,rfl,nLR _,Nat.zero_le _,Rd.nil none,by simp⟩
theorem Ns.parts {A:Option Addr} {n c:Nat} (h:Ns w B (.slice A n c) zs):n=zs.length/\n<=c/\c<=maxLen/\Rd w B 1 A n (zs.map i64v)/\∀ z∈zs,-9223372036854775808<=z/\z<=9223372036854775807:=by
 obtain ⟨A',c',e,hl,hm,h,hz⟩:=h
 injection e with e1 e2 e3
 subst e1;subst e2;subst e3
 exact ⟨rfl,hl,hm,h,hz⟩
theorem Ns.of_cells {a:Addr} {l c:Nat} {zs:List Int} (hl:l<=c) (hm:c<=maxLen) (hz:zs.length=c) (hc:∀ i,i<zs.length->w.cell? (a.add i)=some (.int .i64 (zs.getD i 0))) (hw:∀ n∈zs,(Lit.int .i64 n).wf=true) :
  ∃ ys,Ns w w.heap.size (.slice (some a) l c) ys:=by
 have hlen:(zs.take l).length=l:=by simp;omega
 refine ⟨zs.take l,some a,c,by rw [hlen],by omega,hm,⟨by simp,fun hn=>?_⟩,fun z hz'=>?_⟩
 ·rw [hlen] at hn
  obtain ⟨b,o,spot⟩:=a
  have h0:=hc 0 (by omega)
  have hspot:spot=none:=by simpa [Addr.add] using World.cell?_spot h0
  subst hspot
  refine ⟨b,o,rfl,World.block_lt_of_cell? w ⟨b,o,none⟩ (by simpa [Addr.add] using h0),fun j u hu=>?_⟩
  simp only [List.getElem?_map,Option.map_eq_some_iff] at hu
  obtain ⟨x,hx,rfl⟩:=hu
  obtain ⟨hj,rfl⟩:=List.getElem?_eq_some_iff.1 hx
  have hj' : j<zs.length:=by simp at hj;omega
  have h:=hc j hj'
  rw [add_mk] at h
  rw [h]
  simp [i64v,List.getD,hj']
 ·have:=hw z (List.mem_of_mem_take hz')
  simp only [Lit.wf,Bool.and_eq_true,decide_eq_true_eq] at this
  exact this
end
def Sp.l (d:Sp):List Value:=[.int .i64 d.lo,.int .i64 d.hi,.int .i64 d.sh]
abbrev Sp.v (d:Sp):Value:=.agg #[.int .i64 d.lo,.int .i64 d.hi,.int .i64 d.sh]
theorem Sp.l_len (d:Sp):d.l.length=3:=rfl
theorem Sp.l_one (d:Sp):∀ u∈d.l,u.oneCell' = true:=by
 intro u hu
 simp only [Sp.l,List.mem_cons,List.not_mem_nil,or_false] at hu
 rcases hu with rfl | rfl | rfl <;> rfl
def scs (l:List Sp):List Value:=l.flatMap Sp.l
theorem scs_cons (d:Sp) (l:List Sp):scs (d::l)=d.l++scs l:=rfl
theorem scs_len (l:List Sp):(scs l).length=l.length*3:=by
 induction l with
 | nil=>rfl
 | cons d l ih=>rw [scs_cons,List.length_append,ih,Sp.l_len];simp;omega
theorem scs_drop (l:List Sp) (k:Nat):(scs l).drop (k*3)=scs (l.drop k):=by
 induction k generalizing l with
 | zero=>simp
 | succ k ih=>
  cases l with
  | nil=>simp [scs]
  | cons d l=>
   rw [scs_cons,List.drop_succ_cons,<-ih,show (k+1)*3=d.l.length+k*3 by rw [Sp.l_len];omega,List.drop_append,List.drop_eq_nil_of_le (by omega)]
   simp
theorem scs_take (l:List Sp) (k:Nat):(scs l).take (k*3)=scs (l.take k):=by
 induction k generalizing l with
 | zero=>simp [scs]
 | succ k ih=>
  cases l with
  | nil=>simp [scs]
  | cons d l=>
   rw [scs_cons,List.take_succ_cons,scs_cons,<-ih,show (k+1)*3=d.l.length+k*3 by rw [Sp.l_len];omega,List.take_append,List.take_of_length_le (by omega)]
   simp
theorem scs_at (l:List Sp) (k j:Nat) (hk:k<l.length) (hj:j<3):(scs l)[k*3+j]? = l[k].l[j]?:=by
 have h:=scs_drop l k
 have e:(scs l)[k*3+j]? = ((scs l).drop (k*3))[j]?:=by rw [List.getElem?_drop]
 rw [e,h,List.drop_eq_getElem_cons hk,scs_cons,List.getElem?_append_left (by rw [Sp.l_len];exact hj)]
theorem scs_one (l:List Sp):∀ u∈scs l,u.oneCell' = true:=by
 intro u hu
 obtain ⟨M,_,h⟩:=List.mem_flatMap.1 hu
 exact M.l_one u h
def ics (F:List Int):List Value:=F.map i64v
theorem ics_len (F:List Int):(ics F).length=F.length*1:=by simp [ics]
theorem ics_one (F:List Int):∀ u∈ics F,u.oneCell' = true:=by
 intro u hu
 obtain ⟨M,_,rfl⟩:=List.mem_map.1 hu
 rfl
theorem ics_app (l m:List Int):ics (l++m)=ics l++ics m:=by simp [ics]
def Pl (w:World) (B:Nat) (v:Value) (l:List Sp):Prop:=∃ A c,v=.slice A l.length c/\l.length<=c/\c<=maxLen/\Rd w B 3 A l.length (scs l)
section
variable {w w' : World} {B B' : Nat} {v:Value} {l:List Sp} {A:Option Addr} {n c:Nat}
theorem Pl.nil:Pl w B (.slice none 0 0) []:=⟨none,0,rfl,nLR _,Nat.zero_le _,Rd.nil none⟩
theorem Pl.keep (h:Pl w B v l) (hk:∀ p:Addr,p.block<B->w'.cell? p=w.cell? p):Pl w' B v l:=by
 obtain ⟨A,c,e,hl,hm,h⟩:=h;exact ⟨A,c,e,hl,hm,h.keep hk⟩
theorem Pl.more (h:Pl w B v l) (hB:B<=B'):Pl w B' v l:=by
 obtain ⟨A,c,e,hl,hm,h⟩:=h;exact ⟨A,c,e,hl,hm,h.more hB⟩
theorem Pl.below (h:Pl w B v l) (hb:Below B w w'):Pl w' B v l:=h.keep fun _ hp=>hb.cell hp
theorem Pl.up (h:Pl w w.heap.size v l) (hb:Below w.heap.size w w'):Pl w' w'.heap.size v l:=(h.below hb).more hb.size
theorem Pl.alloc (h:Pl w B v l) (hB:B<=w.heap.size) (o:Obj):Pl (w.alloc o) B v l:=h.keep fun p hp=>World.cell?_alloc_lt w o p (by omega)
theorem Pl.len (h:Pl w B (.slice A n c) l):n=l.length/\n<=c/\c<=maxLen:=by
 obtain ⟨A',c',e,hl,hm,h⟩:=h
 injection e with e1 e2 e3
 subst e2;subst e3
 exact ⟨rfl,hl,hm⟩
theorem Pl.rd (h:Pl w B (.slice A n c) l):Rd w B 3 A n (scs l):=by
 obtain ⟨A',c',e,hl,hm,h⟩:=h
 injection e with e1 e2 e3
 subst e1;subst e2
 exact h
theorem Pl.of_own {base:Nat} {e:TypeId} {n:Nat} (h:w.ownsRow base e 3 v n (scs l)):Pl w w.heap.size v l:=by
 have hl:n=l.length:=by have:=h.1;rw [scs_len] at this;omega
 subst hl
 rcases h.2 with ⟨hv,h0⟩ | ⟨g,cap,cur,hv,_,_,hl,hm,_⟩
 ·subst hv;exact ⟨none,0,by rw [h0],by omega,Nat.zero_le _,by rw [show l=[] from List.length_eq_zero_iff.1 h0];exact Rd.nil _⟩
 ·subst hv;exact ⟨_,cap,rfl,hl,hm,Rd.of_own h⟩
theorem Pl.offp (h:Pl w B (.slice A n c) l) {p:Addr} (ho:∀ a,A=some a->0<n->a.block≠p.block) (v:Value):Pl (w.setCell p v) B (.slice A n c) l:=by
 obtain ⟨h1,h2,h3⟩:=h.len
 subst h1
 refine ⟨A,c,rfl,h2,h3,h.rd.1,fun hn=>?_⟩
 obtain ⟨b,o,e,hb,hc⟩:=h.rd.2 hn
 have:=ho _ e hn
 exact ⟨b,o,e,hb,fun j u hu=>(World.cell?_setCell_other w p _ v (fun e'=>by have e2:=congrArg Addr.block e';simp at e2 this;omega)).trans (hc j u hu)⟩
theorem Pl.atg {k:Nat} (h:Pl w B (.slice A n c) l) (hk:k<l.length):∃ b o,A=some ⟨b,o,none⟩/\b<B/\w.cell? ⟨b,o+k*3,none⟩=some (.int .i64 (sg l k).lo)/\w.cell? ⟨b,o+k*3+1,none⟩=some (.int .i64 (sg l k).hi)/\w.cell? ⟨b,o+k*3+2,none⟩=some (.int .i64 (sg l k).sh):=by
 have hn:=h.len.1
 obtain ⟨b,o,e,hb,hc⟩:=h.rd.2 (by omega)
 have g:∀ j u,j<3->l[k].l[j]? = some u->w.cell? ⟨b,o+k*3+j,none⟩=some u:=fun j u hj hu=>by
  rw [Nat.add_assoc];exact hc _ u (by rw [scs_at l k j hk hj];exact hu)
 rw [sg_get hk]
 exact ⟨b,o,e,hb,g 0 _ (by omega) rfl,g 1 _ (by omega) rfl,g 2 _ (by omega) rfl⟩
theorem Pl.upto {k:Nat} (h:Pl w B (.slice A n c) l) (hk:k<=l.length):Pl w B (.slice A k c) (l.take k):=by
 obtain ⟨h1,h2,h3⟩:=h.len
 refine ⟨A,c,by rw [List.length_take,Nat.min_eq_left hk],by rw [List.length_take,Nat.min_eq_left hk];omega,h3,?_⟩
 rw [List.length_take,Nat.min_eq_left hk]
 refine ⟨by rw [scs_len,List.length_take,Nat.min_eq_left hk],fun h0=>?_⟩
 obtain ⟨b,o,e,hb,hc⟩:=h.rd.2 (by omega)
 exact ⟨b,o,e,hb,fun j u hu=>hc j u (by
  rw [<-scs_take,List.getElem?_take] at hu
  split at hu
  ·exact hu
  ·cases hu)⟩
end
def Fl (w:World) (B:Nat) (v:Value) (l:List Int):Prop:=∃ A c,v=.slice A l.length c/\l.length<=c/\c<=maxLen/\Rd w B 1 A l.length (ics l)
section
variable {w w' : World} {B B' : Nat} {v:Value} {l:List Int} {A:Option Addr} {n c:Nat}
theorem Fl.nil:Fl w B (.slice none 0 0) []:=⟨none,0,rfl,nLR _,Nat.zero_le _,Rd.nil none⟩
theorem Fl.keep (h:Fl w B v l) (hk:∀ p:Addr,p.block<B->w'.cell? p=w.cell? p):Fl w' B v l:=by
 obtain ⟨A,c,e,hl,hm,h⟩:=h;exact ⟨A,c,e,hl,hm,h.keep hk⟩
theorem Fl.more (h:Fl w B v l) (hB:B<=B'):Fl w B' v l:=by
 obtain ⟨A,c,e,hl,hm,h⟩:=h;exact ⟨A,c,e,hl,hm,h.more hB⟩
theorem Fl.below (h:Fl w B v l) (hb:Below B w w'):Fl w' B v l:=h.keep fun _ hp=>hb.cell hp
theorem Fl.up (h:Fl w w.heap.size v l) (hb:Below w.heap.size w w'):Fl w' w'.heap.size v l:=(h.below hb).more hb.size
theorem Fl.alloc (h:Fl w B v l) (hB:B<=w.heap.size) (o:Obj):Fl (w.alloc o) B v l:=h.keep fun p hp=>World.cell?_alloc_lt w o p (by omega)
theorem Fl.len (h:Fl w B (.slice A n c) l):n=l.length/\n<=c/\c<=maxLen:=by
 obtain ⟨A',c',e,hl,hm,h⟩:=h
 injection e with e1 e2 e3
 subst e2;subst e3
 exact ⟨rfl,hl,hm⟩
theorem Fl.rd (h:Fl w B (.slice A n c) l):Rd w B 1 A n (ics l):=by
 obtain ⟨A',c',e,hl,hm,h⟩:=h
 injection e with e1 e2 e3
 subst e1;subst e2
 exact h
theorem Fl.of_own {base:Nat} {e:TypeId} {n:Nat} (h:w.ownsRow base e 1 v n (ics l)):Fl w w.heap.size v l:=by
 have hl:n=l.length:=by have:=h.1;rw [ics_len] at this;omega
 subst hl
 rcases h.2 with ⟨hv,h0⟩ | ⟨g,cap,cur,hv,_,_,hl,hm,_⟩
 ·subst hv;exact ⟨none,0,by rw [h0],by omega,Nat.zero_le _,by rw [show l=[] from List.length_eq_zero_iff.1 h0];exact Rd.nil _⟩
 ·subst hv;exact ⟨_,cap,rfl,hl,hm,Rd.of_own h⟩
theorem Fl.offp (h:Fl w B (.slice A n c) l) {p:Addr} (ho:∀ a,A=some a->0<n->a.block≠p.block) (v:Value):Fl (w.setCell p v) B (.slice A n c) l:=by
 obtain ⟨h1,h2,h3⟩:=h.len
 subst h1
 refine ⟨A,c,rfl,h2,h3,h.rd.1,fun hn=>?_⟩
 obtain ⟨b,o,e,hb,hc⟩:=h.rd.2 hn
 have:=ho _ e hn
 exact ⟨b,o,e,hb,fun j u hu=>(World.cell?_setCell_other w p _ v (fun e'=>by have e2:=congrArg Addr.block e';simp at e2 this;omega)).trans (hc j u hu)⟩
theorem Fl.atg {k:Nat} (h:Fl w B (.slice A n c) l) (hk:k<l.length):∃ b o,A=some ⟨b,o,none⟩/\b<B/\w.cell? ⟨b,o+k,none⟩=some (.int .i64 (ig l k)):=by
 have hn:=h.len.1
 obtain ⟨b,o,e,hb,hc⟩:=h.rd.2 (by omega)
 rw [ig_get hk]
 exact ⟨b,o,e,hb,hc _ _ (by simp [ics,hk,i64v])⟩
end
structure Dx where
 A:Option Addr
 c:Nat
 A2:Option Addr
 c2:Nat
def zDx:Dx:=⟨none,0,none,0⟩
abbrev dv (d:Dd) (X:Dx):Value:=.agg #[.int .i64 d.vn,.slice X.A d.l.length X.c,.slice X.A2 d.F.length X.c2]
structure DR (W:World) (B:Nat) (d:Dd) (X:Dx):Prop where
 pl:Pl W B (.slice X.A d.l.length X.c) d.l
 fl:Fl W B (.slice X.A2 d.F.length X.c2) d.F
section
variable {W W' : World} {B B' p:Nat} {d:Dd} {X:Dx}
theorem DR.below (h:DR W B d X) (hb:Below B W W'):DR W' B d X:=⟨h.pl.below hb,h.fl.below hb⟩
theorem DR.more (h:DR W B d X) (hB:B<=B'):DR W B' d X:=⟨h.pl.more hB,h.fl.more hB⟩
theorem DR.up (h:DR W W.heap.size d X) (hb:Below W.heap.size W W'):DR W' W'.heap.size d X:=(h.below hb).more hb.size
theorem DR.zero:DR W B zD10 zDx:=⟨Pl.nil,Fl.nil⟩
theorem DR.alloc (h:DR W W.heap.size d X) (o:Obj):DR (W.alloc o) (W.alloc o).heap.size d X:=h.up ((Below.refl _ _).alloc (nLR _) o)
structure DOff (d:Dd) (X:Dx) (p:Nat):Prop where
 o1:∀ a,X.A=some a->0<d.l.length->a.block≠p
 o2:∀ a,X.A2=some a->0<d.F.length->a.block≠p
theorem DR.offs (h:DR W B d X) (hp:B<=p):DOff d X p:=by
 refine ⟨fun a e h0=>?_,fun a e h0=>?_⟩
 ·obtain ⟨b,o,e2,hb,_⟩:=h.pl.rd.2 h0
  rw [e2] at e;injection e with e;subst e;show b≠p;omega
 ·obtain ⟨b,o,e2,hb,_⟩:=h.fl.rd.2 h0
  rw [e2] at e;injection e with e;subst e;show b≠p;omega
theorem DR.offp (h:DR W B d X) {q:Addr} (ho:DOff d X q.block) (v:Value):DR (W.setCell q v) B d X:=⟨h.pl.offp ho.o1 v,h.fl.offp ho.o2 v⟩
def Dx.nw (X:Dx) (lo:Nat):Prop:=Nw lo X.A/\Nw lo X.A2
theorem Dx.nw.off {lo:Nat} (h:X.nw lo) (hp:p<lo):DOff d X p:=⟨fun a e _=>by have:=h.1 a e;omega,fun a e _=>by have:=h.2 a e;omega⟩
theorem Dx.nw.low {lo lo' : Nat} (h:X.nw lo) (hp:lo'<=lo):X.nw lo':=⟨nw_low h.1 hp,nw_low h.2 hp⟩
theorem zDx_nw (lo:Nat):zDx.nw lo:=⟨nw_none,nw_none⟩
end
structure Db10 (W:World) (p:Nat) (d:Dd) (X:Dx):Prop where
 c0:W.cell? ⟨p,0,none⟩=some (.int .i64 d.vn)
 c1:W.cell? ⟨p,1,none⟩=some (.slice X.A d.l.length X.c)
 c2:W.cell? ⟨p,2,none⟩=some (.slice X.A2 d.F.length X.c2)
 fr:∀ o,W.frozen? ⟨p,o,none⟩=false
 lt:p<W.heap.size
section
variable {W W' : World} {p:Nat} {d:Dd} {X:Dx}
theorem Db10.keep (h:Db10 W p d X) (hc:∀ o,W'.cell? ⟨p,o,none⟩=W.cell? ⟨p,o,none⟩) (hf:∀ o,W'.frozen? ⟨p,o,none⟩=W.frozen? ⟨p,o,none⟩) (hs:W.heap.size<=W'.heap.size):Db10 W' p d X:=
 ⟨(hc 0).trans h.c0,(hc 1).trans h.c1,(hc 2).trans h.c2,fun o=>(hf o).trans (h.fr o),Nat.lt_of_lt_of_le h.lt hs⟩
theorem Db10.up (h:Db10 W p d X) (hb:Below W.heap.size W W'):Db10 W' p d X:=h.keep (fun o=>hb.cell (p:=⟨p,o,none⟩) h.lt) (fun o=>hb.frozen (p:=⟨p,o,none⟩) h.lt) hb.size
theorem Db10.alloc (h:Db10 W p d X) (o:Obj):Db10 (W.alloc o) p d X:=h.up ((Below.refl _ _).alloc (nLR _) o)
theorem Db10.other (h:Db10 W p d X) {a:Addr} (hne:a.block≠p) (v:Value):Db10 (W.setCell a v) p d X:=
 h.keep (fun o=>World.cell?_setCell_other W a ⟨p,o,none⟩ v (fun e=>hne (by rw [e]))) (fun o=>by simp [go_sem]) (by simp)
theorem Db10.start (w:World) (d:Dd) (X:Dx) (t:TypeId):Db10 (w.alloc (.cells #[.int .i64 d.vn,.slice X.A d.l.length X.c,.slice X.A2 d.F.length X.c2] t)) w.heap.size d X:=
 ⟨by simp [go_sem],by simp [go_sem],by simp [go_sem],fun o=>by simp [go_sem],by simp⟩
theorem Db10.zero (w:World) (t:TypeId):Db10 (w.alloc (.cells #[.int .i64 0,.slice none 0 0,.slice none 0 0] t)) w.heap.size zD10 zDx:=Db10.start w zD10 zDx t
theorem Db10.all (h:Db10 W p d X):(W.cell? ⟨p,0,none⟩=some (.int .i64 d.vn)/\W.cell? ⟨p,1,none⟩=some (.slice X.A d.l.length X.c)/\W.cell? ⟨p,2,none⟩=some (.slice X.A2 d.F.length X.c2)/\p<W.heap.size)/\W.frozen? ⟨p,0,none⟩=false/\W.frozen? ⟨p,1,none⟩=false/\W.frozen? ⟨p,2,none⟩=false:=⟨⟨h.c0,h.c1,h.c2,h.lt⟩,h.fr 0,h.fr 1,h.fr 2⟩
end
structure DAt (w:World) (p:Nat) (d:Dd) (X:Dx) (W:World):Prop where
 db:Db10 W p d X
 dr:DR W W.heap.size d X
 off:DOff d X p
 bel:Below w.heap.size w W
 old:w.heap.size<=p
section
variable {w W W' : World} {p:Nat} {d:Dd} {X:Dx}
theorem DAt.start {w:World} {d:Dd} {X:Dx} (t:TypeId) (h:DR w w.heap.size d X):DAt w w.heap.size d X (w.alloc (.cells #[.int .i64 d.vn,.slice X.A d.l.length X.c,.slice X.A2 d.F.length X.c2] t)):=
 ⟨Db10.start w d X t,h.alloc _,h.offs (nLR _),(Below.refl _ _).alloc (nLR _) _,nLR _⟩
theorem DAt.below (h:DAt w p d X W) (hb:Below W.heap.size W W'):DAt w p d X W':=⟨h.db.up hb,h.dr.up hb,h.off,h.bel.trans (hb.mono h.bel.size),h.old⟩
theorem DAt.alloc (h:DAt w p d X W) (o:Obj):DAt w p d X (W.alloc o):=h.below ((Below.refl _ _).alloc (nLR _) o)
abbrev K3 (p:Nat) (d:Dd) (X:Dx) (W:World):Prop:=W.cell? ⟨p,0,none⟩=some (.int .i64 d.vn)/\W.cell? ⟨p,1,none⟩=some (.slice X.A d.l.length X.c)/\W.cell? ⟨p,2,none⟩=some (.slice X.A2 d.F.length X.c2)
end
def wiR (n lo hi:Int):Bool:=decide (lo<=n/\n<=hi)
theorem wiR_true {n lo hi:Int} (h1:lo<=n) (h2:n<=hi):wiR n lo hi=true:=decide_eq_true ⟨h1,h2⟩
theorem wiR_low {n lo hi:Int} (h1:¬lo<=n):wiR n lo hi=false:=decide_eq_false (fun h=>h1 h.1)
theorem wiR_high {n lo hi:Int} (h1:¬n<=hi):wiR n lo hi=false:=decide_eq_false (fun h=>h1 h.2)
theorem rwithin_any (n lo hi:Int) (w:World):Calls Tryz.prog 40 #[.int .i64 n,.int .i64 lo,.int .i64 hi] w fun e w'=>e=.returned (.bool (wiR n lo hi))/\w=w':=by
 by_cases h1:lo<=n
 ·by_cases h2:n<=hi
  ·have H:=Lh (wiR_true h1 h2)
   go_enter Tryz.func40,Tryz.ntmps40
   go_wp2
   go_ret
   exact ⟨by rw [H.out];rfl,rfl⟩
  ·have H:=Lh (wiR_high (lo:=lo) h2)
   go_enter Tryz.func40,Tryz.ntmps40
   go_wp2
   go_ret
   exact ⟨by rw [H.out];rfl,rfl⟩
 ·have H:=Lh (wiR_low (hi:=hi) h1)
  go_enter Tryz.func40,Tryz.ntmps40
  go_wp2
  go_ret
  exact ⟨by rw [H.out];rfl,rfl⟩
theorem sfind1_any (d:Sp) (s:Int) (p:Nat) (w:World) (hp:p<w.heap.size) (hc:w.cell? ⟨p,0,none⟩=some (.int .i64 s)) :
  Calls Tryz.prog 107 #[d.v,.pointer (some ⟨p,0,none⟩)] w fun e w'=>e=.returned (.bool (decide (d.sh=s)))/\Below w.heap.size w w':=by
 have HB:=Lh ((Below.refl w.heap.size w).alloc (nLR _) (.cells #[.int .i64 d.lo,.int .i64 d.hi,.int .i64 d.sh] 113))
 have HD:=Lh (show (d.sh==s)=decide (d.sh=s) by rw [Bool.eq_iff_iff];simp)
 go_enter Tryz.func107,Tryz.ntmps107
 go_wp2
 go_ret
 exact ⟨by rw [<-HD.out];rfl,HB.out⟩
theorem sixfunc_any (A:Option Addr) (n c:Nat) (l:List Sp) (s:Int) (p:Nat) (w:World) (hv:Pl w w.heap.size (.slice A n c) l) (hp:p<w.heap.size) (hc:w.cell? ⟨p,0,none⟩=some (.int .i64 s)) :
  Calls Tryz.prog 106 #[.slice A n c,.func (.func 107) #[] #[.pointer (some ⟨p,0,none⟩)]] w fun e w'=>e=.returned (.int .i64 (ixS l s))/\Below w.heap.size w w':=by
 obtain ⟨rfl,hm1,hm2⟩:=hv.len
 have hL:l.length<=9223372036854775807:=by unfold maxLen at hm2;omega
 have HV:=Lh hv
 have HP:=Lh hp
 have HC:=Lh hc
 have HB:=Lh (Below.refl w.heap.size w)
 clear hv hm1 hm2 hp hc
 go_enter Tryz.func106,Tryz.ntmps106
 go_wp2
 go_loopw [8] (fun i wr=>∃ k:Nat,k<=l.length/\i=.int .i64 k/\Below w.heap.size w wr/\∀ j,j<k->(sg l j).sh≠s) (fun i _=>l.length - (intOf i).toNat)
 case atStart=>exact ⟨0,by omega,rfl,HB.out,fun j h=>absurd h (by omega)⟩
 case round=>
  obtain ⟨k,hk,rfl,hb,hno⟩:=hrel
  have HN:=Lh hno
  have HVK:=Lh (HV.out.below hb)
  have HPK:=Lh (Nat.lt_of_lt_of_le HP.out hb.size)
  have HCK:=Lh ((hb.cell (p:=⟨p,0,none⟩) HP.out).trans HC.out)
  have HB:=Lh hb
  clear hno hb
  by_cases hlt:k<l.length
  ·obtain ⟨b,o,rfl,hb,c0,c1,c2⟩:=HVK.out.atg hlt
   have HF:=Lh (fun w1 hp hc=>sfind1_any (sg l k) s p w1 hp hc)
   by_cases he:(sg l k).sh=s
   ·have HR:=Lh (ixS_hit hlt he HN.out)
    rw [decide_eq_true he] at HF
    clear he
    generalize sg l k=M at*
    go_wp2_with fail
    refine (HF.out _ HPK.out HCK.out).mono ?_
    rintro e w1 ⟨rfl,hb1⟩
    have HB1:=Lh (HB.out.trans (hb1.mono HB.out.size))
    clear hb1
    go_wp2
    go_ret
    exact ⟨by rw [HR.out];rfl,HB1.out⟩
   ·have HNN:=Lh (show ∀ j,j<k+1->(sg l j).sh≠s from fun j h=>by
     by_cases e:j=k
     ·rw [e];exact he
     ·exact HN.out j (by omega))
    rw [decide_eq_false he] at HF
    clear he
    generalize sg l k=M at*
    go_wp2_with fail
    refine (HF.out _ HPK.out HCK.out).mono ?_
    rintro e w1 ⟨rfl,hb1⟩
    have HB1:=Lh (HB.out.trans (hb1.mono HB.out.size))
    clear hb1
    go_wp2
    go_roundw
    case rel=>exact ⟨k+1,by omega,by go_num,HB1.out,HNN.out⟩
    case measure=>simp [intOf];omega
  ·have HR:=Lh (ixS_none (s:=s) (fun j hj=>HN.out j (by omega)))
   go_wp2
   go_ret
   exact ⟨by rw [HR.out];rfl,HB.out⟩
theorem sfind_any (A:Option Addr) (n c:Nat) (l:List Sp) (s:Int) (w:World) (hv:Pl w w.heap.size (.slice A n c) l) :
  Calls Tryz.prog 72 #[.slice A n c,.int .i64 s] w fun e w'=>e=.returned (.int .i64 (ixS l s))/\Below w.heap.size w w':=by
 have HC:=Lh (sixfunc_any A n c l s w.heap.size (w.alloc (.cells #[.int .i64 s] 3)) ((hv.alloc (nLR _) _).more (by simp)) (by simp) (by simp [go_sem]))
 have HB:=Lh ((Below.refl w.heap.size w).alloc (nLR _) (.cells #[.int .i64 s] 3))
 have hmf:∀ (fn:Fn) (first cap:Array Value) (w:World),(Instr.makeFunc fn first cap).run Tryz.prog w=.ok (.func fn first cap) w:=fun _ _ _ _=>rfl
 clear hv
 generalize ixS l s=r at*
 go_enter Tryz.func72,Tryz.ntmps72
 go_wp2_with fail
 refine HC.out.mono ?_
 rintro e w1 ⟨rfl,hb1⟩
 have HB1:=Lh (HB.out.trans (hb1.mono HB.out.size))
 clear hb1
 go_wp2
 go_ret
 exact ⟨rfl,HB1.out⟩
theorem scovers_any (A:Option Addr) (n c:Nat) (l:List Sp) (w:World) (hv:Pl w w.heap.size (.slice A n c) l) :
  Calls Tryz.prog 100 #[.slice A n c] w fun e w'=>e=.returned (.bool (cvD 0 l))/\Below w.heap.size w w':=by
 obtain ⟨rfl,hm1,hm2⟩:=hv.len
 have hL:l.length<=9223372036854775807:=by unfold maxLen at hm2;omega
 have HV:=Lh hv
 have HB:=Lh (Below.refl w.heap.size w)
 have HN0:=Lh (nxD_zero l)
 clear hv hm1 hm2
 go_enter Tryz.func100,Tryz.ntmps100
 go_wp2
 go_loopw [3,8] (fun nx i wr=>∃ k:Nat,k<=l.length/\i=.int .i64 k/\nx=.int .i64 (nxD l k)/\Below w.heap.size w wr/\∀ j,j<k->spK l j) (fun _ i _=>l.length - (intOf i).toNat)
 case atStart=>exact ⟨0,by omega,rfl,by rw [HN0.out],HB.out,fun j h=>absurd h (by omega)⟩
 case round=>
  obtain ⟨k,hk,rfl,rfl,hb,hno⟩:=hrel
  have HN:=Lh hno
  have HVK:=Lh (HV.out.below hb)
  have HB:=Lh hb
  clear hno hb
  by_cases hlt:k<l.length
  ·obtain ⟨b,o,rfl,hb,c0,c1,c2⟩:=HVK.out.atg hlt
   have HW:=Lh (fun w1=>rwithin_any (sg l k).hi (sg l k).lo 65535 w1)
   have HX:=Lh (nxD_succ l k)
   have HA:=Lh (HB.out.alloc HB.out.size (.cells #[.int .i64 (sg l k).lo,.int .i64 (sg l k).hi,.int .i64 (sg l k).sh] 113))
   by_cases hs:spK l k
   ·have HNN:=Lh (show ∀ j,j<k+1->spK l j from fun j h=>by
     by_cases e:j=k
     ·rw [e];exact hs
     ·exact HN.out j (by omega))
    obtain ⟨h1,h2,h3⟩:=hs
    have hne:((sg l k).lo != nxD l k)=false:=by simpa using h1
    rw [wiR_true h2 h3] at HW
    have hh1:-9223372036854775808<=(sg l k).hi\/True:=.inr trivial
    have HNX:nxD l k=(sg l k).lo:=h1.symm
    have h0:0<=(sg l k).lo:=by
     rw [h1]
     cases k with
     | zero=>rw [nxD_zero];omega
     | succ k=>rw [nxD_succ];have:=(HN.out k (by omega)).1;have:=(HN.out k (by omega)).2.1;exact (by
       have hq:∀ j,j<k+1->0<=(sg l j).hi+1:=fun j=>by
        induction j with
        | zero=>intro hj;have a:=(HN.out 0 hj).1;have b:=(HN.out 0 hj).2.1;rw [nxD_zero] at a;omega
        | succ j ih=>intro hj;have a:=(HN.out (j+1) hj).1;have b:=(HN.out (j+1) hj).2.1;have c:=ih (by omega);rw [nxD_succ] at a;omega
       exact hq k (by omega))
    clear h1 hh1 HNX
    generalize nxD l k=nk at*
    generalize sg l k=M at*
    go_wp2_with fail
    refine (HW.out _).mono ?_
    rintro e w1 ⟨rfl,rfl⟩
    go_wp2
    go_roundw
    case rel=>exact ⟨k+1,by omega,by go_num,by rw [HX.out],HA.out,HNN.out⟩
    case measure=>simp [intOf];omega
   ·have HR:=Lh (cvD_no hlt hs)
    by_cases h1:(sg l k).lo=nxD l k
    ·have hne:((sg l k).lo != nxD l k)=false:=by simpa using h1
     have hwf:wiR (sg l k).hi (sg l k).lo 65535=false:=decide_eq_false fun h=>hs ⟨h1,h.1,h.2⟩
     rw [hwf] at HW
     clear h1 hs hwf
     generalize nxD l k=nk at*
     generalize sg l k=M at*
     go_wp2_with fail
     refine (HW.out _).mono ?_
     rintro e w1 ⟨rfl,rfl⟩
     go_wp2
     go_ret
     exact ⟨by rw [HR.out];rfl,HA.out⟩
    ·have hne:((sg l k).lo != nxD l k)=true:=bne_iff_ne.2 h1
     clear h1 hs
     generalize nxD l k=nk at*
     generalize sg l k=M at*
     go_wp2
     go_ret
     exact ⟨by rw [HR.out];rfl,HA.out⟩
  ·obtain rfl:k=l.length:=by omega
   have HR:=Lh (show (nxD l l.length==65536)=cvD 0 l by rw [cvD_end HN.out,Bool.eq_iff_iff];simp)
   go_wp2
   go_ret
   exact ⟨by rw [<-HR.out];rfl,HB.out⟩
end Go.Proofs.YtkecnihgjepfeaaGreat
