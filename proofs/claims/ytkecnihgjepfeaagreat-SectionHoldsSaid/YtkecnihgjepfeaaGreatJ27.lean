/- What is proved here: parts of the proof: Yl Qg Kd Kb Kmp Khs. -/
import Derived.Test.YtkecnihgjepfeaaGreatJ26
import Derived.Maps.OwnOps
import Derived.Maps.Views
import Derived.Carry
namespace Go.Proofs.YtkecnihgjepfeaaGreat
open Go.RowKit
set_option linter.unusedVariables false
set_option linter.unusedSimpArgs false
set_option maxHeartbeats 8000000
set_option maxRecDepth 20000
theorem SR.grownS {W W' : World} {g:Nat} {S:Sh} {D:Sx} (h:SR W W.heap.size S D) (hg:W.grownBy W' (some g)) (ho:SOff S D g):SR W' W'.heap.size S D:=
 ⟨(h.ls.grownR (nLR _) hg (fun q e=>by injection e with e;subst e;exact ho.o1)).more hg.size,(h.el.grownR (nLR _) hg (fun q e=>by injection e with e;subst e;exact ho.o2)).more hg.size,(h.dl.grownR (nLR _) hg (fun q e=>by injection e with e;subst e;exact ho.o3)).more hg.size⟩
noncomputable def nwSl (s:Su) (i:Nat):So:=⟨0,ffS (nwD s.sl s.lv) i s.cp.toNat⟩
def stE (s:Su):St:=⟨0,s.ep,0,0⟩
noncomputable def grA (s:Su) (i k:Nat) (c:Int):Ar:=⟨(List.range i).map (nwSl s),List.replicate k (stE s),0,c,[],nwD s.sl s.lv,s.ep,s.ck,s.ni⟩
theorem grA_sl (s:Su) (i k:Nat) (c:Int):(grA s i k c).sl.length=i:=by simp [grA]
theorem grA_st (s:Su) (i k:Nat) (c:Int):(grA s i k c).st.length=k:=by simp [grA]
abbrev KG (y:Nat) (s:Su) (i k:Nat) (c:Int) (A:Option Addr) (c1:Nat) (A2:Option Addr) (c2:Nat) (X:Dx) (W:World):Prop:=
 W.cell? ⟨y,0,none⟩=some (.slice A i c1)/\W.cell? ⟨y,1,none⟩=some (.slice A2 k c2)/\W.cell? ⟨y,2,none⟩=some (.int .i64 0)/\W.cell? ⟨y,3,none⟩=some (.int .i64 c)/\W.cell? ⟨y,4,none⟩=some (.slice none 0 0)/\W.cell? ⟨y,5,none⟩=some (.int .i64 (nwD s.sl s.lv).vn)/\W.cell? ⟨y,6,none⟩=some (.slice X.A (nwD s.sl s.lv).l.length X.c)/\W.cell? ⟨y,7,none⟩=some (.slice X.A2 (nwD s.sl s.lv).F.length X.c2)/\W.cell? ⟨y,8,none⟩=some (.int .i64 s.ep)/\W.cell? ⟨y,9,none⟩=some (.int .i64 s.ck)/\W.cell? ⟨y,10,none⟩=some (.int .i64 s.ni)
structure Gw12 (w:World) (p r y:Nat) (s:Su) (c:Int) (i k:Nat) (A:Option Addr) (c1:Nat) (q:List Sl) (A2:Option Addr) (c2:Nat) (X:Dx) (W:World):Prop where
 sb:SuB W p s
 rb:QB W r zA zAx
 yk:KG y s i k c A c1 A2 c2 X W
 yf:∀ o,W.frozen? ⟨y,o,none⟩=false
 yl:y<W.heap.size
 o1:W.ownsRow (y+1) 74 9 (.slice A i c1) i (qcs q)
 o2:W.ownsRow (y+1) 63 4 (.slice A2 k c2) k (tcs (List.replicate k (stE s)))
 so:q.map Sl.so=(List.range i).map (nwSl s)
 sr:∀ t∈q,SR W W.heap.size t.sh t.sx/\t.sx.nw (y+1)
 dr:DR W W.heap.size (nwD s.sl s.lv) X
 dn:X.nw (r+1)/\DOff (nwD s.sl s.lv) X y
 x1:∀ b,(Value.slice A i c1).ownBlock=some b->(∀ t∈q,SOff t.sh t.sx b)/\DOff (nwD s.sl s.lv) X b/\(Value.slice A2 k c2).ownBlock≠some b
 x2:∀ b,(Value.slice A2 k c2).ownBlock=some b->(∀ t∈q,SOff t.sh t.sx b)/\DOff (nwD s.sl s.lv) X b
 ne:w.heap.size<=p/\p<r/\r<y
 bel:Below w.heap.size w W
section
variable {w W W' : World} {p r y:Nat} {s:Su} {c:Int} {i k:Nat} {A A2:Option Addr} {c1 c2:Nat} {q:List Sl} {X:Dx}
theorem KG.keep (h:KG y s i k c A c1 A2 c2 X W) (hc:∀ o,W'.cell? ⟨y,o,none⟩=W.cell? ⟨y,o,none⟩):KG y s i k c A c1 A2 c2 X W':=by
 obtain ⟨k0,k1,k2,k3,k4,k5,k6,k7,k8,k9,k10⟩:=h
 exact ⟨(hc 0).trans k0,(hc 1).trans k1,(hc 2).trans k2,(hc 3).trans k3,(hc 4).trans k4,(hc 5).trans k5,(hc 6).trans k6,(hc 7).trans k7,(hc 8).trans k8,(hc 9).trans k9,(hc 10).trans k10⟩
theorem SR.grownN {g:Option Nat} {S:Sh} {D:Sx} (h:SR W W.heap.size S D) (hg:W.grownBy W' g) (ho:∀ b,g=some b->SOff S D b):SR W' W'.heap.size S D:=by
 cases g with
 | none=>exact h.up ((Below.refl _ _).grown hg (nLR _) (fun k e=>by cases e))
 | some b=>exact h.grownS hg (ho b rfl)
theorem DR.grownN {g:Option Nat} {d:Dd} {X:Dx} (h:DR W W.heap.size d X) (hg:W.grownBy W' g) (ho:∀ b,g=some b->DOff d X b):DR W' W'.heap.size d X:=by
 cases g with
 | none=>exact h.up ((Below.refl _ _).grown hg (nLR _) (fun k e=>by cases e))
 | some b=>exact (h.grownO (ho b rfl) (nLR _) hg).more hg.size
theorem QB.grownN {g:Option Nat} {b:Nat} {a:Ar} {Y:Ax} (h:QB W b a Y) (hg:W.grownBy W' g) (ho:∀ x,g=some x->b≠x):QB W' b a Y:=by
 cases g with
 | none=>exact h.up ((Below.refl _ _).grown hg (nLR _) (fun k e=>by cases e))
 | some x=>exact h.grown hg (ho x rfl)
theorem SuB.grownN {g:Option Nat} {b:Nat} (h:SuB W b s) (hg:W.grownBy W' g) (ho:∀ x,g=some x->b≠x):SuB W' b s:=by
 cases g with
 | none=>exact h.up ((Below.refl _ _).grown hg (nLR _) (fun k e=>by cases e))
 | some x=>exact h.grown hg (ho x rfl)
theorem own_farN {base size n:Nat} {g:Option Nat} {t:TypeId} {v:Value} {xs:List Value} (h:W.ownsRow base t size v n xs) (hg:W.grownBy W' g) (hne:∀ b,g=some b->v.ownBlock≠some b):W'.ownsRow base t size v n xs:=by
 cases g with
 | none=>exact own_up10 h ((Below.refl _ _).grown hg (nLR _) (fun k e=>by cases e))
 | some b=>exact own_far10 h hg (hne b rfl)
theorem cell_farN {g:Option Nat} {b:Nat} (hg:W.grownBy W' g) (hb:b<W.heap.size) (ho:∀ x,g=some x->b≠x) (o:Nat):W'.cell? ⟨b,o,none⟩=W.cell? ⟨b,o,none⟩/\W'.frozen? ⟨b,o,none⟩=W.frozen? ⟨b,o,none⟩:=by
 cases g with
 | none=>
  have h:=(Below.refl W.heap.size W).grown hg (nLR _) (fun k e=>by cases e)
  exact ⟨h.cell (p:=⟨b,o,none⟩) hb,h.frozen (p:=⟨b,o,none⟩) hb⟩
 | some x=>exact ⟨hg.cell_far ⟨b,o,none⟩ hb (fun e=>by injection e with e;exact ho x rfl e),hg.frozen_far ⟨b,o,none⟩ hb (fun e=>by injection e with e;exact ho x rfl e)⟩
theorem Gw12.below (h:Gw12 w p r y s c i k A c1 q A2 c2 X W) (hb:Below W.heap.size W W'):Gw12 w p r y s c i k A c1 q A2 c2 X W':=
 ⟨h.sb.up hb,h.rb.up hb,h.yk.keep (fun o=>hb.cell (p:=⟨y,o,none⟩) h.yl),fun o=>(hb.frozen (p:=⟨y,o,none⟩) h.yl).trans (h.yf o),Nat.lt_of_lt_of_le h.yl hb.size,own_up10 h.o1 hb,own_up10 h.o2 hb,h.so,fun t ht=>⟨(h.sr t ht).1.up hb,(h.sr t ht).2⟩,h.dr.up hb,h.dn,h.x1,h.x2,h.ne,h.bel.trans (hb.mono h.bel.size)⟩
theorem Gw12.drew (h:Gw12 w p r y s c i k A c1 q A2 c2 X W):Gw12 w p r y s c i k A c1 q A2 c2 X W.drew:=h.below (Below.refl _ _).drew
theorem SR.offs8 {S:Sh} {D:Sx} {B b:Nat} (h:SR W B S D) (hb:B<=b):SOff S D b:=⟨rd_off h.ls.rd hb,rd_off h.el.rd hb,rd_off h.dl.rd hb⟩
theorem Gw12.slot {W0:World} (h0:Gw12 w p r y s c i k A c1 q A2 c2 X W0) (h:Gw12 w p r y s c i k A c1 q A2 c2 X W) {T:Sl} (hso:T.so=nwSl s i) (hsr:SR W W.heap.size T.sh T.sx) (hsn:T.sx.nw W0.heap.size)
  {g1 cp1:Nat} (ho:W'.ownsRow (y+1) 74 9 (.slice (some ⟨g1,0,none⟩) (i+1) cp1) (i+1) (qcs q++T.l)) (hg:W.grownBy W' (Value.slice A i c1).ownBlock) (hat:(Value.slice A i c1).ownBlock=some g1\/g1=W.heap.size) :
  Gw12 w p r y s c (i+1) k (some ⟨g1,0,none⟩) cp1 (q++[T]) A2 c2 X (W'.setCell ⟨y,0,none⟩ (.slice (some ⟨g1,0,none⟩) (i+1) cp1)):=by
 rw [show qcs q++T.l=qcs (q++[T]) by simp [qcs]] at ho
 have hne:=h.ne
 have hyl:=h0.yl
 have hb1:=h0.o1.lt
 have hb2:=h0.o2.lt
 have hlow:∀ x,(Value.slice A i c1).ownBlock=some x->y<x:=fun x e=>(hb1 x e).1
 have hgy:y<g1/\g1≠p/\g1≠r:=by
  rcases hat with e | e
  ·have:=hlow g1 e;omega
  ·have:=h.yl;omega
 have hyg:∀ x,(Value.slice A i c1).ownBlock=some x->y≠x:=fun x e=>by have:=hlow x e;omega
 have hy' : y<W'.heap.size:=Nat.lt_of_lt_of_le h.yl hg.size
 have hT:SR W' W'.heap.size T.sh T.sx:=hsr.grownN hg (fun b e=>hsn.off (hb1 b e).2)
 have hTy:T.sx.nw (y+1):=hsn.low hyl
 have hq:∀ t∈q,SR W' W'.heap.size t.sh t.sx:=fun t ht=>(h.sr t ht).1.grownN hg (fun b e=>(h.x1 b e).1 t ht)
 have hd:=h.dr.grownN hg (fun b e=>(h.x1 b e).2.1)
 have e1:∀ t∈q++[T],SR W' W'.heap.size t.sh t.sx/\t.sx.nw (y+1):=fun t ht=>by
  rcases List.mem_append.1 ht with ht | ht
  ·exact ⟨hq t ht,(h.sr t ht).2⟩
  ·rw [List.mem_singleton] at ht;subst ht;exact ⟨hT,hTy⟩
 refine ⟨(h.sb.grownN hg (fun x e=>by have:=hlow x e;omega)).other (x:=⟨y,0,none⟩) (show y≠p by omega) _,(h.rb.grownN hg (fun x e=>by have:=hlow x e;omega)).other (x:=⟨y,0,none⟩) (show y≠r by omega) _,?_,fun o=>by rw [World.frozen?_setCell];exact (cell_farN hg h.yl hyg o).2.trans (h.yf o),by simpa using hy',own_oth ho (fun b e=>by injection e with e;subst e;show g1≠y;omega) _,own_oth (own_farN h.o2 hg (fun b e=>(h.x1 b e).2.2)) (fun b e=>by have:=(hb2 b e).1;show b≠y;omega) _,?_,fun t ht=>⟨((e1 t ht).1.offp (p:=⟨y,0,none⟩) ((e1 t ht).2.off (Nat.lt_succ_self y)) _).more (by simp),(e1 t ht).2⟩,(hd.offp (q:=⟨y,0,none⟩) h.dn.2 _).more (by simp),h.dn,fun b e=>?_,fun b e=>?_,h.ne,?_⟩
 ·obtain ⟨k0,k1,k2,k3,k4,k5,k6,k7,k8,k9,k10⟩:=h.yk.keep (fun o=>(cell_farN hg h.yl hyg o).1)
  exact ⟨by simp [go_sem,k0],by simp [go_sem,k1],by simp [go_sem,k2],by simp [go_sem,k3],by simp [go_sem,k4],by simp [go_sem,k5],by simp [go_sem,k6],by simp [go_sem,k7],by simp [go_sem,k8],by simp [go_sem,k9],by simp [go_sem,k10]⟩
 ·rw [List.map_append,h.so,List.range_succ,List.map_append]
  simp [hso]
 ·have e:g1=b:=Option.some.inj e
  subst e
  rcases hat with e2 | e2
  ·have hx:=h.x1 g1 e2
   refine ⟨fun t ht=>?_,hx.2.1,hx.2.2⟩
   rcases List.mem_append.1 ht with ht | ht
   ·exact hx.1 t ht
   ·rw [List.mem_singleton] at ht;subst ht;exact hsn.off (hb1 g1 e2).2
  ·refine ⟨fun t ht=>?_,h.dr.offs (by omega),fun e3=>by have:=(h.o2.lt g1 e3).2;omega⟩
   rcases List.mem_append.1 ht with ht | ht
   ·exact (h.sr t ht).1.offs8 (by omega)
   ·rw [List.mem_singleton] at ht;subst ht;exact hsr.offs8 (by omega)
 ·refine ⟨fun t ht=>?_,(h.x2 b e).2⟩
  rcases List.mem_append.1 ht with ht | ht
  ·exact (h.x2 b e).1 t ht
  ·rw [List.mem_singleton] at ht;subst ht;exact hsn.off (hb2 b e).2
 ·exact ((h.bel.grown hg h.bel.size (fun x e=>by have:=hlow x e;omega))).setCell (p:=⟨y,0,none⟩) (show w.heap.size<=y by omega) _
theorem Gw12.stripe (h:Gw12 w p r y s c i k A c1 q A2 c2 X W)
  {g1 cp1:Nat} (ho:W'.ownsRow (y+1) 63 4 (.slice (some ⟨g1,0,none⟩) (k+1) cp1) (k+1) (tcs (List.replicate k (stE s))++(stE s).l)) (hg:W.grownBy W' (Value.slice A2 k c2).ownBlock) (hat:(Value.slice A2 k c2).ownBlock=some g1\/g1=W.heap.size) :
  Gw12 w p r y s c i (k+1) A c1 q (some ⟨g1,0,none⟩) cp1 X (W'.setCell ⟨y,1,none⟩ (.slice (some ⟨g1,0,none⟩) (k+1) cp1)):=by
 rw [show tcs (List.replicate k (stE s))++(stE s).l=tcs (List.replicate (k+1) (stE s)) by rw [List.replicate_succ',tcs_app];simp [tcs]] at ho
 have hne:=h.ne
 have hb1:=h.o1.lt
 have hb2:=h.o2.lt
 have hlow:∀ x,(Value.slice A2 k c2).ownBlock=some x->y<x:=fun x e=>(hb2 x e).1
 have hgy:y<g1:=by
  rcases hat with e | e
  ·exact hlow g1 e
  ·have:=h.yl;omega
 have hyg:∀ x,(Value.slice A2 k c2).ownBlock=some x->y≠x:=fun x e=>by have:=hlow x e;omega
 have hy' : y<W'.heap.size:=Nat.lt_of_lt_of_le h.yl hg.size
 have hq:∀ t∈q,SR W' W'.heap.size t.sh t.sx:=fun t ht=>(h.sr t ht).1.grownN hg (fun b e=>(h.x2 b e).1 t ht)
 have hd:=h.dr.grownN hg (fun b e=>(h.x2 b e).2)
 have hx12:∀ b,(Value.slice A2 k c2).ownBlock=some b->(Value.slice A i c1).ownBlock≠some b:=fun b e e2=>(h.x1 b e2).2.2 e
 refine ⟨(h.sb.grownN hg (fun x e=>by have:=hlow x e;omega)).other (x:=⟨y,1,none⟩) (show y≠p by omega) _,(h.rb.grownN hg (fun x e=>by have:=hlow x e;omega)).other (x:=⟨y,1,none⟩) (show y≠r by omega) _,?_,fun o=>by rw [World.frozen?_setCell];exact (cell_farN hg h.yl hyg o).2.trans (h.yf o),by simpa using hy',own_oth (own_farN h.o1 hg hx12) (fun b e=>by have:=(hb1 b e).1;show b≠y;omega) _,own_oth ho (fun b e=>by injection e with e;subst e;show g1≠y;omega) _,h.so,fun t ht=>⟨((hq t ht).offp (p:=⟨y,1,none⟩) ((h.sr t ht).2.off (Nat.lt_succ_self y)) _).more (by simp),(h.sr t ht).2⟩,(hd.offp (q:=⟨y,1,none⟩) h.dn.2 _).more (by simp),h.dn,fun b e=>⟨(h.x1 b e).1,(h.x1 b e).2.1,fun e2=>?_⟩,fun b e=>?_,h.ne,?_⟩
 ·obtain ⟨k0,k1,k2,k3,k4,k5,k6,k7,k8,k9,k10⟩:=h.yk.keep (fun o=>(cell_farN hg h.yl hyg o).1)
  exact ⟨by simp [go_sem,k0],by simp [go_sem,k1],by simp [go_sem,k2],by simp [go_sem,k3],by simp [go_sem,k4],by simp [go_sem,k5],by simp [go_sem,k6],by simp [go_sem,k7],by simp [go_sem,k8],by simp [go_sem,k9],by simp [go_sem,k10]⟩
 ·have e2:g1=b:=Option.some.inj e2
  subst e2
  rcases hat with e3 | e3
  ·exact (h.x1 g1 e).2.2 e3
  ·have:=(hb1 g1 e).2;omega
 ·have e:g1=b:=Option.some.inj e
  subst e
  rcases hat with e2 | e2
  ·exact h.x2 g1 e2
  ·exact ⟨fun t ht=>(h.sr t ht).1.offs8 (by omega),h.dr.offs (by omega)⟩
 ·exact ((h.bel.grown hg h.bel.size (fun x e=>by have:=hlow x e;omega))).setCell (p:=⟨y,1,none⟩) (show w.heap.size<=y by omega) _
theorem Gw12.near1 (h:Gw12 w p r y s c i k A c1 q A2 c2 X W) (hg:W.grownBy W' (Value.slice A i c1).ownBlock):W'.cell? ⟨y,0,none⟩=some (.slice A i c1)/\W'.frozen? ⟨y,0,none⟩=false/\y<W'.heap.size:=by
 have hy:∀ x,(Value.slice A i c1).ownBlock=some x->y≠x:=fun x e=>by have:=(h.o1.lt x e).1;omega
 have h2:=cell_farN hg h.yl hy 0
 exact ⟨h2.1.trans h.yk.1,h2.2.trans (h.yf 0),Nat.lt_of_lt_of_le h.yl hg.size⟩
theorem Gw12.near2 (h:Gw12 w p r y s c i k A c1 q A2 c2 X W) (hg:W.grownBy W' (Value.slice A2 k c2).ownBlock):W'.cell? ⟨y,1,none⟩=some (.slice A2 k c2)/\W'.frozen? ⟨y,1,none⟩=false/\y<W'.heap.size:=by
 have hy:∀ x,(Value.slice A2 k c2).ownBlock=some x->y≠x:=fun x e=>by have:=(h.o2.lt x e).1;omega
 have h2:=cell_farN hg h.yl hy 1
 exact ⟨h2.1.trans h.yk.2.1,h2.2.trans (h.yf 1),Nat.lt_of_lt_of_le h.yl hg.size⟩
theorem Gw12.alloc (h:Gw12 w p r y s c i k A c1 q A2 c2 X W) (o:Obj):Gw12 w p r y s c i k A c1 q A2 c2 X (W.alloc o):=h.below ((Below.refl _ _).alloc (nLR _) o)
theorem Gw12.ar (h:Gw12 w p r y s c i k A c1 q A2 c2 X W):AR W W.heap.size (grA s i k c) ⟨A,c1,q,A2,c2,none,0,X⟩:=by
 have h1:=Ql.of_own h.o1
 have h2:=Tl.of_own h.o2
 exact ⟨by rw [grA_sl];exact h1,h.so,fun t ht=>(h.sr t ht).1,by rw [grA_st];exact h2,Ls.nil,h.dr⟩
theorem Gw12.anw (h:Gw12 w p r y s c i k A c1 q A2 c2 X W):(⟨A,c1,q,A2,c2,none,0,X⟩:Ax).nw (r+1):=
 have hn:=h.ne
 have hl:r+1<=y+1:=by omega
 ⟨nw_low (nwv_of (nwv_own h.o1 (nLR _))) hl,fun t ht=>(h.sr t ht).2.low hl,nw_low (nwv_of (nwv_own h.o2 (nLR _))) hl,nw_none,h.dn.1⟩
end
end Go.Proofs.YtkecnihgjepfeaaGreat
/- Plain: dead-letter stores: their first errors, and what Put, Take and Clean give. -/
namespace Go.Proofs.YtkecnihgjepfeaaGreat
open Go.RowKit
set_option linter.unusedVariables false
set_option linter.unusedSimpArgs false
set_option maxHeartbeats 8000000
set_option maxRecDepth 20000
open Classical in
noncomputable def dp8 (l:List Msg):Bool:=decide (dupP l)
open Classical in
theorem dp8_yes {l:List Msg} (h:dupP l):dp8 l=true:=decide_eq_true h
open Classical in
theorem dp8_no {l:List Msg} (h:¬dupP l):dp8 l=false:=decide_eq_false h
open Classical in
theorem dp8_of {l:List Msg} (h:dp8 l=true):dupP l:=of_decide_eq_true h
open Classical in
theorem dp8_not {l:List Msg} (h:dp8 l=false):¬dupP l:=of_decide_eq_false h
noncomputable def so8 (l:List Msg):Int:=if fe l≠0 then fe l else if dp8 l=true then 10 else 0
theorem so8_fe {l:List Msg} (h:fe l≠0):so8 l=fe l:=if_pos h
theorem so8_dup {l:List Msg} (h:fe l=0) (h1:dupP l):so8 l=10:=by unfold so8;rw [if_neg (fun g=>g h),if_pos (dp8_yes h1)]
theorem so8_ok {l:List Msg} (h:fe l=0) (h1:¬dupP l):so8 l=0:=by unfold so8;rw [if_neg (fun g=>g h),if_neg (by rw [dp8_no h1];decide)]
noncomputable def va8 (cap:Int) (l:List Msg):Int:=if wi cap 1 24=false then 1 else if cap<l.length then 2 else so8 l
theorem va8_cap {cap:Int} {l:List Msg} (h:wi cap 1 24=false):va8 cap l=1:=if_pos h
theorem va8_long {cap:Int} {l:List Msg} (h:wi cap 1 24=true) (h1:cap<l.length):va8 cap l=2:=by unfold va8;rw [if_neg (by rw [h];decide),if_pos h1]
theorem va8_so {cap:Int} {l:List Msg} (h:wi cap 1 24=true) (h1:¬cap<l.length):va8 cap l=so8 l:=by unfold va8;rw [if_neg (by rw [h];decide),if_neg h1]
structure Ok8 (cap:Int) (l:List Msg):Prop where
 c1:1<=cap
 c2:cap<=24
 len:(l.length:Int)<=cap
 all:∀ M∈l,vf M=0
 dup:¬dupP l
end Go.Proofs.YtkecnihgjepfeaaGreat
/- Plain: dead-letter stores in memory: a box of a store, results that are a store and an error. -/
namespace Go.Proofs.YtkecnihgjepfeaaGreat
open Go.RowKit
set_option linter.unusedVariables false
set_option linter.unusedSimpArgs false
set_option maxHeartbeats 8000000
set_option maxRecDepth 20000
def V8 (w:World) (x:Int) (e:Ending) (w' : World):Prop:=e=.returned (.int .i64 x)/\Below w.heap.size w w'
structure Db8 (W:World) (p:Nat) (cap:Int) (A:Option Addr) (n c:Nat):Prop where
 lt:p<W.heap.size
 c0:W.cell? ⟨p,0,none⟩=some (.int .i64 cap)
 c1:W.cell? ⟨p,1,none⟩=some (.slice A n c)
 fr:∀ o,W.frozen? ⟨p,o,none⟩=false
section
variable {W W' : World} {p n c:Nat} {A:Option Addr} {cap:Int}
theorem Db8.facts (h:Db8 W p cap A n c):W.cell? ⟨p,0,none⟩=some (.int .i64 cap)/\W.cell? ⟨p,1,none⟩=some (.slice A n c)/\p<W.heap.size:=⟨h.c0,h.c1,h.lt⟩
theorem Db8.all (h:Db8 W p cap A n c):W.cell? ⟨p,0,none⟩=some (.int .i64 cap)/\W.cell? ⟨p,1,none⟩=some (.slice A n c)/\p<W.heap.size/\W.frozen? ⟨p,0,none⟩=false/\W.frozen? ⟨p,1,none⟩=false:=⟨h.c0,h.c1,h.lt,h.fr 0,h.fr 1⟩
theorem Db8.up (h:Db8 W p cap A n c) (hb:Below W.heap.size W W'):Db8 W' p cap A n c:=
 ⟨Nat.lt_of_lt_of_le h.lt hb.size,(hb.cell (p:=⟨p,0,none⟩) h.lt).trans h.c0,(hb.cell (p:=⟨p,1,none⟩) h.lt).trans h.c1,fun o=>(hb.frozen (p:=⟨p,o,none⟩) h.lt).trans (h.fr o)⟩
theorem Db8.alloc (h:Db8 W p cap A n c) (o:Obj):Db8 (W.alloc o) p cap A n c:=h.up ((Below.refl _ _).alloc (nLR _) o)
theorem Db8.fresh (w:World) (cap:Int) (A:Option Addr) (n c:Nat) (t:TypeId):Db8 (w.alloc (.cells #[.int .i64 cap,.slice A n c] t)) w.heap.size cap A n c:=
 ⟨by simp,by simp [go_sem],by simp [go_sem],fun o=>by simp [go_sem]⟩
end
def Ob (b n:Nat) (A:Option Addr):Prop:=0<n->∀ a,A=some a->a.block≠b
theorem ob_ls {W:World} {B n c b:Nat} {A:Option Addr} {l:List Msg} (h:Ls W B (.slice A n c) l) (hb:B<=b):Ob b n A:=fun hn a e=>by
 obtain ⟨b',o,e',hb',_⟩:=h.rd.2 hn
 rw [e'] at e
 injection e with e
 subst e
 show b'≠b
 omega
theorem Ls.growno {W W' : World} {B n c:Nat} {A:Option Addr} {l:List Msg} (h:Ls W B (.slice A n c) l) (hB:B<=W.heap.size) {row:Option Nat} (hg:W.grownBy W' row) (ho:∀ q,row=some q->Ob q n A):Ls W' B (.slice A n c) l:=by
 obtain ⟨h1,h2,h3⟩:=h.len
 subst h1
 refine ⟨A,c,rfl,h2,h3,h.rd.1,fun hn=>?_⟩
 obtain ⟨b,o,e,hb,hc⟩:=h.rd.2 hn
 exact ⟨b,o,e,hb,fun j u hu=>(hg.cell_far ⟨b,o+j,none⟩ (Nat.lt_of_lt_of_le hb hB) (fun e'=>ho b e'.symm hn _ e rfl)).trans (hc j u hu)⟩
def D8 (w:World) (cap:Int) (l:List Msg) (x:Int) (e:Ending) (w' : World):Prop:=∃ A c,e=.returned (.tuple #[.agg #[.int .i64 cap,.slice A l.length c],.int .i64 x])/\Nw w.heap.size A/\Ls w' w'.heap.size (.slice A l.length c) l/\Below w.heap.size w w'
end Go.Proofs.YtkecnihgjepfeaaGreat
namespace Go.Proofs.YtkecnihgjepfeaaGreat
open Go.RowKit
set_option linter.unusedVariables false
set_option linter.unusedSimpArgs false
set_option maxHeartbeats 8000000
set_option maxRecDepth 20000
theorem met_key:Maps.Keyed Tryz.prog 3:=Maps.int_keyed Tryz.underlying3
theorem met_zero (w:World):(zeroValue 4).run Tryz.prog w=.ok (.bool false) w:=by kernel_rfl
theorem wf_i64 {x:Int} (h1:-9223372036854775808<=x) (h2:x<=9223372036854775807):(Lit.int .i64 x).wf=true:=by
 have e1:IntKind.i64.min = -9223372036854775808:=by decide
 have e2:IntKind.i64.max=9223372036854775807:=by decide
 simp only [Lit.wf,decide_eq_true_eq,Bool.and_eq_true]
 omega
def MetAt (w:World) (b:Nat) (ks:List Int):Prop:=∃ D:DataW Unit,w.ownsMap Tryz.prog 3 (plainElem Tryz.prog 4) b ks.length D/\Maps.IsMap D/\∀ x:Int,D.atKey (.int .i64 x) (.lit (.bool false))=.lit (.bool (ks.contains x))
theorem MetAt.lt {w:World} {b:Nat} {ks:List Int} (h:MetAt w b ks):b<w.heap.size:=by obtain ⟨D,ho,_⟩:=h;exact ho.lt
theorem met_new (w:World):MetAt (w.alloc (.map #[] 0)) w.heap.size []:=⟨.map [],World.ownsMap_made _ _ _ _,Maps.isMap_empty,fun x=>by simp [DataW.atKey]⟩
theorem MetAt.below {w w' : World} {b:Nat} {ks:List Int} (h:MetAt w b ks) (hb:Below w.heap.size w w'):MetAt w' b ks:=by
 have hl:=h.lt
 obtain ⟨D,⟨es,clock,he,r⟩,hD,ha⟩:=h
 exact ⟨D,⟨es,clock,(hb.block b hl).trans he,r⟩,hD,ha⟩
theorem plainElem_bool_of {v:Value} {c:Bool} {ps:List MemPlace} (h:plainElem (H:=Unit) Tryz.prog 4 v=some (.lit (.bool c),ps)):v=.bool c:=by
 have hb:=Tryz.underlying4
 cases v <;> simp [plainElem,hb] at h
 rw [h.1]
theorem MetAt.look {w:World} {b:Nat} {ks:List Int} (h:MetAt w b ks) {x:Int} (hx:(Lit.int .i64 x).wf=true) :
  (Instr.lookup 230 (.map (some b)) (.int .i64 x) false).run Tryz.prog w=.ok (.bool (ks.contains x)) w:=by
 obtain ⟨D,ho,hD,ha⟩:=h
 obtain ⟨v,ps,hrun,hv⟩:=ho.lookup met_key Tryz.underlying230 (met_zero w) (plainElem_bool Tryz.underlying4 false) (Maps.keyOf_int_mk Tryz.underlying3 hx)
 rw [ha] at hv
 rw [hrun,plainElem_bool_of hv]
theorem wpList_met {w:World} {ops:Array Oper} {rest:List Oper} {o:Oper} {a:Act} {Q:Exit->Act->World->Prop}
  (hg:o.guard=none) (m x v:Operand) (hop:o.op=Op.mapUpdate 230 m x v) (b:Nat) (ks:List Int) (key:Int)
  (hm:a.eval m=.map (some b)) (hx:a.eval x=.int .i64 key) (hv:a.eval v=.bool true) (hown:MetAt w b ks) (hn:ks.length<maxLen) (hwf:(Lit.int .i64 key).wf=true)
  (hK:∀ w',MetAt w' b (key::ks)->w.grownBy w' (some b)->wpList Tryz.prog ops Q rest (a.put o.dst undef) w') :
  wpList Tryz.prog ops Q (o::rest) a w:=by
 obtain ⟨D,ho,hD,ha⟩:=hown
 refine wpList_mapUpdate_own w hg m x v _ hop 3 4 met_key Tryz.underlying230 _ b ks.length D hm ho hn _ _ (.int .i64 key) hx hv (Maps.keyOf_int_mk Tryz.underlying3 hwf) (.lit (.bool true)) [] (plainElem_bool Tryz.underlying4 true) ?_
 intro w' ho' hgr
 refine hK w' ⟨_,ho',hD.put _ _,fun y=>?_⟩ hgr
 by_cases e:y=key
 ·subst e
  rw [Maps.atKey_put_same hD (show WideAt.IsKeyLit (.int .i64 y) from trivial)]
  simp
 ·rw [Maps.atKey_put_other (fun h=>e (by injection h)),ha]
  simp [e]
def ids8 (l:List Msg) (k:Nat):List Int:=((l.take k).map Msg.id).reverse
theorem ids8_succ {l:List Msg} {k:Nat} (h:k<l.length):ids8 l (k+1)=l[k].id::ids8 l k:=by
 unfold ids8
 rw [<-List.take_append_getElem h,List.map_append,List.reverse_append]
 rfl
theorem ids8_len {l:List Msg} {k:Nat} (h:k<=l.length):(ids8 l k).length=k:=by simp [ids8,Nat.min_eq_left h]
theorem ids8_dup {l:List Msg} {k:Nat} (hk:k<l.length):((ids8 l k).contains l[k].id=true->dupP l)/\((ids8 l k).contains l[k].id=false->∀ i (hi:i<l.length),i<k->l[i].id≠l[k].id):=by
 have key:(ids8 l k).contains l[k].id=true↔∃ i,∃ hi:i<l.length,i<k/\l[i].id=l[k].id:=by
  rw [List.contains_iff_mem]
  unfold ids8
  rw [List.mem_reverse,List.mem_map]
  constructor
  ·rintro ⟨N,hN,e⟩
   rw [List.mem_take_iff_getElem] at hN
   obtain ⟨i,hi,rfl⟩:=hN
   exact ⟨i,by omega,by omega,e⟩
  ·rintro ⟨i,hi,hik,e⟩
   exact ⟨l[i],List.mem_take_iff_getElem.2 ⟨i,by omega,rfl⟩,e⟩
 constructor
 ·intro h
  obtain ⟨i,hi,hik,e⟩:=key.1 h
  exact ⟨i,k,hi,hk,hik,e⟩
 ·intro h i hi hik e
  rw [key.2 ⟨i,hi,hik,e⟩] at h
  cases h
structure HsAt (w:World) (B:Nat) (A:Option Addr) (c:Nat) (l:List Msg) (k:Nat) (W:World):Prop where
 met:MetAt W B (ids8 l k)
 bel:Below w.heap.size w W
 old:w.heap.size<=B
 ls:Ls W w.heap.size (.slice A l.length c) l
 no:∀ i j (hi:i<l.length) (hj:j<l.length),i<j->j<k->l[i].id≠l[j].id
theorem HsAt.below {w W W' : World} {B c k:Nat} {A:Option Addr} {l:List Msg} (h:HsAt w B A c l k W) (hb:Below W.heap.size W W'):HsAt w B A c l k W':=
 ⟨h.met.below hb,h.bel.trans (hb.mono h.bel.size),h.old,h.ls.below (hb.mono h.bel.size),h.no⟩
theorem HsAt.put {w W W' : World} {B c k:Nat} {A:Option Addr} {l:List Msg} (h:HsAt w B A c l k W) (hk:k<l.length) (hm:MetAt W' B (l[k].id::ids8 l k)) (hg:W.grownBy W' (some B)) (hn:∀ i (hi:i<l.length),i<k->l[i].id≠l[k].id):HsAt w B A c l (k+1) W':=
 ⟨by rw [ids8_succ hk];exact hm,h.bel.grown hg h.bel.size (fun j hj=>by cases hj;exact h.old),h.old,h.ls.growno h.bel.size hg (fun q e=>by cases e;exact ob_ls h.ls h.old),fun i j hi hj hij hjk=>by
  by_cases e:j=k
  ·subst e;exact hn i hi hij
  ·exact h.no i j hi hj hij (by omega)⟩
theorem same8_any (A:Option Addr) (n c:Nat) (l:List Msg) (w:World) (hv:Ls w w.heap.size (.slice A n c) l) (hok:∀ M∈l,vf M=0) :
  Calls Tryz.prog 158 #[.slice A n c] w fun e w'=>e=.returned (.bool (dp8 l))/\Below w.heap.size w w':=by
 obtain ⟨rfl,hm1,hm2⟩:=hv.len
 have hL:l.length<=9223372036854775807:=by unfold maxLen at hm2;omega
 have HML:=Lh (show l.length<=maxLen by omega)
 have HW:=Lh (fun k (hk:k<l.length)=>show (Lit.int .i64 l[k].id).wf=true by
  have:=(vf_ok (hok l[k] (List.getElem_mem hk))).1
  exact wf_i64 (by omega) (by omega))
 have hmm:=@run_makeMap Tryz.prog
 have H0:=Lh (show HsAt w w.heap.size A c l 0 (w.alloc (.map #[] 0)) from ⟨met_new w,(Below.refl _ _).alloc (nLR _) _,nLR _,hv.alloc (nLR _) _,fun i j _ _ _ h=>absurd h (by omega)⟩)
 clear hv hm1 hm2 hok
 go_enter Tryz.func158,Tryz.ntmps158
 go_wp2
 obtain ⟨B,hB⟩:∃ B,B=w.heap.size:=⟨_,rfl⟩
 rw [<-hB]
 have H1:=Lh (show HsAt w B A c l 0 (w.alloc (.map #[] 0)) by rw [hB];exact H0.out)
 clear hB H0 hmm
 go_loopw [9] (fun i wr=>∃ k:Nat,k<=l.length/\i=.int .i64 k/\HsAt w B A c l k wr) (fun i _=>l.length - (intOf i).toNat)
 case atStart=>exact ⟨0,by omega,rfl,H1.out⟩
 case round=>
  obtain ⟨k,hk,rfl,hr⟩:=hrel
  have HR:=Lh hr
  clear hr H1
  by_cases hlt:k<l.length
  ·have HD:=Lh (ids8_dup hlt)
   have HWK:=Lh (HW.out k hlt)
   have HPUT:=Lh (fun W W' (h:HsAt w B A c l k W)=>HsAt.put (W':=W') h hlt)
   have hb:=(Below.refl wr.heap.size wr).alloc (nLR _) (.cells (l[k]).cs 79)
   have HRA:=Lh (HR.out.below hb)
   have HLN:=Lh (show (ids8 l k).length<maxLen by rw [ids8_len hk];have:=HML.out;omega)
   have hlk:=HRA.out.met.look HWK.out
   clear hb
   obtain ⟨b,o,rfl,hb,c0,c1,c2,c3,c4,c5,c6⟩:=HR.out.ls.at_ hlt
   cases he:(ids8 l k).contains l[k].id with
   | true=>
    have HY:=Lh (dp8_yes (HD.out.1 he))
    rw [he] at hlk
    clear he HD HPUT
    generalize l[k]=X at*
    go_wp2
    go_ret
    exact ⟨by rw [HY.out];rfl,HRA.out.bel⟩
   | false=>
    have HNN:=Lh (HD.out.2 he)
    rw [he] at hlk
    clear he HD
    generalize hX:l[k]=X at*
    have HX:=Lh hX
    clear hX
    go_wp2_with (at_mapUpdate;refine wpList_met rfl _ _ _ rfl B (ids8 l k) X.id rfl rfl rfl HRA.out.met HLN.out HWK.out ?_;intro w2 hm2 hg2)
    have HR2:=Lh (HPUT.out _ w2 HRA.out hm2 hg2 HNN.out)
    clear hm2 hg2
    go_wp2
    go_roundw
    case rel=>exact ⟨k+1,by omega,by go_num,HR2.out⟩
    case measure=>simp [intOf];omega
  ·have HY:=Lh (dp8_no (l:=l) (by rintro ⟨i,j,hi,hj,hij,e⟩;exact HR.out.no i j hi hj hij (by omega) e))
   go_wp2
   go_ret
   exact ⟨by rw [HY.out];rfl,HR.out.bel⟩
end Go.Proofs.YtkecnihgjepfeaaGreat
