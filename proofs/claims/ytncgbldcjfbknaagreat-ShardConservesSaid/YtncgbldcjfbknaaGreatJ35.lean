/- What is proved here: Handle of the statements' base returns some handle; shardqueueref07.span and Validate by contracts; More of the statements' base; what the law ShardConserves keeps in memory; all but one region of shardqueuelaw07.ShardConserves, from what that region does. -/
import Derived.Test.YtncgbldcjfbknaaGreatJ34
import Derived.OpenShut
import Derived.ShutString
import Derived.ChangeOld
import Derived.Deep.CutBlock
namespace Go.Proofs.YtncgbldcjfbknaaGreat
open Go.RowKit
set_option linter.unusedVariables false
/-- Some handle, made by a source. -/
def SrHn (B g:Nat) (w:World) (e:Ending) (w' : World):Prop:=∃ H:Hn,e=.returned H.v∧SrcAt w' B g∧w.grownBy w' (some g)
/-- Block q holds a handle, and may be written. -/
structure Hb (W:World) (q:Nat) (H:Hn):Prop where
 c0:W.cell? ⟨q,0,none⟩=some (.int .i64 H.id)
 c1:W.cell? ⟨q,1,none⟩=some (.int .i64 H.gn)
 c2:W.cell? ⟨q,2,none⟩=some (.int .i64 H.rt)
 c3:W.cell? ⟨q,3,none⟩=some (.int .i64 H.ht)
 fr:∀ o,W.frozen? ⟨q,o,none⟩=false
 lt:q<W.heap.size
section
variable {w W W' : World} {p q g:Nat} {H:Hn}
theorem Hb.start (w:World) (a b c d:Int) (t:TypeId):Hb (w.alloc (.cells #[.int .i64 a,.int .i64 b,.int .i64 c,.int .i64 d] t)) w.heap.size ⟨a,b,c,d⟩:=
 ⟨by simp [go_sem],by simp [go_sem],by simp [go_sem],by simp [go_sem],fun o=>by simp [go_sem],by simp⟩
theorem Hb.keep (h:Hb W q H) (hs:W.heap.size≤W'.heap.size) (hc:∀ o,W'.cell? ⟨q,o,none⟩=W.cell? ⟨q,o,none⟩) (hf:∀ o,W'.frozen? ⟨q,o,none⟩=W.frozen? ⟨q,o,none⟩):Hb W' q H:=
 ⟨(hc 0).trans h.c0,(hc 1).trans h.c1,(hc 2).trans h.c2,(hc 3).trans h.c3,fun o=>(hf o).trans (h.fr o),Nat.lt_of_lt_of_le h.lt hs⟩
theorem Hb.up (h:Hb W q H) (hb:Below W.heap.size W W'):Hb W' q H:=h.keep hb.size (fun o=>hb.cell (p:=⟨q,o,none⟩) h.lt) (fun o=>hb.frozen (p:=⟨q,o,none⟩) h.lt)
theorem Hb.alloc (h:Hb W q H) (o:Obj):Hb (W.alloc o) q H:=h.up ((Below.refl _ _).alloc (Nat.le_refl _) o)
theorem Hb.grown (h:Hb W q H) (hg:W.grownBy W' (some g)) (hne:q≠g):Hb W' q H:=h.keep hg.size (fun o=>hg.cell_far ⟨q,o,none⟩ h.lt (fun e=>by injection e with e;exact hne e)) (fun o=>hg.frozen_far ⟨q,o,none⟩ h.lt (fun e=>by injection e with e;exact hne e))
theorem Hb.other (h:Hb W q H) {a:Addr} (hne:a.block≠q) (v:Value):Hb (W.setCell a v) q H:=
 h.keep (by simp) (fun o=>World.cell?_setCell_other W a ⟨q,o,none⟩ v (fun e=>hne (by rw [e]))) (fun o=>by simp [go_sem])
theorem Hb.all (h:Hb W q H):(W.cell? ⟨q,0,none⟩=some (.int .i64 H.id)∧W.cell? ⟨q,1,none⟩=some (.int .i64 H.gn)∧W.cell? ⟨q,2,none⟩=some (.int .i64 H.rt)∧W.cell? ⟨q,3,none⟩=some (.int .i64 H.ht)∧q<W.heap.size)∧
  W.frozen? ⟨q,0,none⟩=false∧W.frozen? ⟨q,1,none⟩=false∧W.frozen? ⟨q,2,none⟩=false∧W.frozen? ⟨q,3,none⟩=false:=⟨⟨h.c0,h.c1,h.c2,h.c3,h.lt⟩,h.fr 0,h.fr 1,h.fr 2,h.fr 3⟩
theorem Hb.set (h:Hb W q H) (a b c d:Int):Hb ((((W.setCell ⟨q,0,none⟩ (.int .i64 a)).setCell ⟨q,1,none⟩ (.int .i64 b)).setCell ⟨q,2,none⟩ (.int .i64 c)).setCell ⟨q,3,none⟩ (.int .i64 d)) q ⟨a,b,c,d⟩:=by
 obtain ⟨⟨c0,c1,c2,c3,l⟩,_⟩:=h.all
 exact ⟨by simp [go_sem,c0],by simp [go_sem,c1],by simp [go_sem,c2],by simp [go_sem,c3],fun o=>by simp [go_sem,h.fr o],by simp [l]⟩
theorem Hb.set1 (h:Hb W q H) (x:Int):Hb (W.setCell ⟨q,1,none⟩ (.int .i64 x)) q { H with gn:=x }:=by
 obtain ⟨⟨c0,c1,c2,c3,l⟩,_⟩:=h.all
 exact ⟨by simp [go_sem,c0],by simp [go_sem,c1],by simp [go_sem,c2],by simp [go_sem,c3],fun o=>by simp [go_sem,h.fr o],by simp [l]⟩
theorem Hb.set2 (h:Hb W q H) (x:Int):Hb (W.setCell ⟨q,2,none⟩ (.int .i64 x)) q { H with rt:=x }:=by
 obtain ⟨⟨c0,c1,c2,c3,l⟩,_⟩:=h.all
 exact ⟨by simp [go_sem,c0],by simp [go_sem,c1],by simp [go_sem,c2],by simp [go_sem,c3],fun o=>by simp [go_sem,h.fr o],by simp [l]⟩
end
/-- The work of Handle: the source, the box of the shard, the box of the result. -/
structure Hd0 (w:World) (B g p r:Nat) (S:Sh) (D:Sx) (W:World):Prop where
 src:SrcAt W B g
 sb:SB8 W p S D
 sr:SR W W.heap.size S D
 off:SOff S D g
 rs:Hb W r ⟨0,0,0,0⟩
 grow:w.grownBy W (some g)
 old:g<w.heap.size∧w.heap.size≤p∧p<r∧B≤g∧r<W.heap.size
/-- .. and the box of the handle. -/
structure Hd1 (w:World) (B g p r k:Nat) (S:Sh) (D:Sx) (H:Hn) (W:World):Prop where
 h0:Hd0 w B g p r S D W
 hb:Hb W k H
 ne:r<k
section
variable {w W W' : World} {B g p r k:Nat} {S:Sh} {D:Sx} {H:Hn}
theorem SR.turn (h:SR W W.heap.size S D) (ho:SOff S D g) (hg:W.grownBy W' (some g)):SR W' W'.heap.size S D:=
 ⟨(h.ls.grownR (Nat.le_refl _) hg (fun q e=>by injection e with e;subst e;exact ho.o1)).more hg.size,(h.el.grownR (Nat.le_refl _) hg (fun q e=>by injection e with e;subst e;exact ho.o2)).more hg.size,(h.dl.grownR (Nat.le_refl _) hg (fun q e=>by injection e with e;subst e;exact ho.o3)).more hg.size⟩
theorem Hd0.turn (h:Hd0 w B g p r S D W) (hs:SrcAt W' B g) (hg:W.grownBy W' (some g)):Hd0 w B g p r S D W':=by
 have ho:=h.old
 exact ⟨hs,h.sb.grown hg (fun x e=>by injection e with e;omega),h.sr.turn h.off hg,h.off,h.rs.grown hg (by omega),h.grow.trans hg,ho.1,ho.2.1,ho.2.2.1,ho.2.2.2.1,Nat.lt_of_lt_of_le ho.2.2.2.2 hg.size⟩
theorem Hd0.below (h:Hd0 w B g p r S D W) (hb:Below W.heap.size W W'):Hd0 w B g p r S D W':=
 ⟨h.src.below hb,h.sb.up hb,h.sr.up hb,h.off,h.rs.up hb,only_below h.grow hb,h.old.1,h.old.2.1,h.old.2.2.1,h.old.2.2.2.1,Nat.lt_of_lt_of_le h.old.2.2.2.2 hb.size⟩
theorem Hd0.alloc (h:Hd0 w B g p r S D W) (o:Obj):Hd0 w B g p r S D (W.alloc o):=h.below ((Below.refl _ _).alloc (Nat.le_refl _) o)
theorem Hd1.turn (h:Hd1 w B g p r k S D H W) (hs:SrcAt W' B g) (hg:W.grownBy W' (some g)):Hd1 w B g p r k S D H W':=⟨h.h0.turn hs hg,h.hb.grown hg (by have:=h.h0.old;have:=h.ne;omega),h.ne⟩
theorem Hd1.below (h:Hd1 w B g p r k S D H W) (hb:Below W.heap.size W W'):Hd1 w B g p r k S D H W':=⟨h.h0.below hb,h.hb.up hb,h.ne⟩
theorem Hd1.alloc (h:Hd1 w B g p r k S D H W) (o:Obj):Hd1 w B g p r k S D H (W.alloc o):=h.below ((Below.refl _ _).alloc (Nat.le_refl _) o)
theorem Hd1.drew (h:Hd1 w B g p r k S D H W):Hd1 w B g p r k S D H W.drew:=h.below (Below.refl _ _).drew
theorem Hd0.other (h:Hd0 w B g p r S D W) {a:Addr} (h1:a.block≠r) (h2:r<a.block) (ho:SOff S D a.block) (v:Value):Hd0 w B g p r S D (W.setCell a v):=by
 have hd:=h.old
 exact ⟨h.src.other (p:=a) (by omega) (by omega) v,h.sb.other (by omega) v,(h.sr.offp ho v).more (by simp),h.off,h.rs.other h1 v,only_set h.grow (p:=a) (.inr (by omega)) v,hd.1,hd.2.1,hd.2.2.1,hd.2.2.2.1,by simp;exact hd.2.2.2.2⟩
theorem Hd0.out (hs:SrcAt W B g) (hg:w.grownBy W (some g)) (h1:w.heap.size≤r) (h2:g<w.heap.size) (h3:B≤g) (x0 x1 x2 x3:Value):SrcAt ((((W.setCell ⟨r,0,none⟩ x0).setCell ⟨r,1,none⟩ x1).setCell ⟨r,2,none⟩ x2).setCell ⟨r,3,none⟩ x3) B g∧w.grownBy ((((W.setCell ⟨r,0,none⟩ x0).setCell ⟨r,1,none⟩ x1).setCell ⟨r,2,none⟩ x2).setCell ⟨r,3,none⟩ x3) (some g):=by
 have e1:∀ o,(⟨r,o,none⟩:Addr).block≠g:=fun o=>show r≠g by omega
 have e2:∀ o,B≤(⟨r,o,none⟩:Addr).block:=fun o=>show B≤r by omega
 have e3:∀ o,(⟨r,o,none⟩:Addr).block=g∨w.heap.size≤(⟨r,o,none⟩:Addr).block:=fun o=>.inr (show w.heap.size≤r by omega)
 exact ⟨((((hs.other (e1 _) (e2 _) _).other (e1 _) (e2 _) _).other (e1 _) (e2 _) _).other (e1 _) (e2 _) _),only_set (only_set (only_set (only_set hg (e3 _) _) (e3 _) _) (e3 _) _) (e3 _) _⟩
/-- .. and the box of the message. -/
structure Hd2 (w:World) (B g p r k q:Nat) (S:Sh) (D:Sx) (H:Hn) (M:Msg) (W:World):Prop where
 h1:Hd1 w B g p r k S D H W
 mb:MBx W q M
 ne:k<q
 off:SOff S D q
theorem Hd2.start (h:Hd1 w B g p r k S D H W) (ho:SOff S D W.heap.size) (M:Msg) (t:TypeId):Hd2 w B g p r k W.heap.size S D H M (W.alloc (.cells #[.int .i64 M.id,.int .i64 M.rt,.int .i64 M.ep,.int .i64 M.ct,.int .i64 M.gn,.int .i64 M.st,.string M.bd] t)):=
 ⟨h.alloc _,MBx.start W M t,h.hb.lt,ho⟩
theorem Hd2.turn {q:Nat} {M:Msg} (h:Hd2 w B g p r k q S D H M W) (hs:SrcAt W' B g) (hg:W.grownBy W' (some g)):Hd2 w B g p r k q S D H M W':=
 ⟨h.h1.turn hs hg,h.mb.grown hg (fun x e=>by injection e with e;have:=h.ne;have:=h.h1.ne;have:=h.h1.h0.old;omega),h.ne,h.off⟩
theorem Hd2.drew {q:Nat} {M:Msg} (h:Hd2 w B g p r k q S D H M W):Hd2 w B g p r k q S D H M W.drew:=⟨h.h1.drew,h.mb.up (Below.refl _ _).drew,h.ne,h.off⟩
theorem Hd1.other (h:Hd1 w B g p r k S D H W) {a:Addr} (h1:k<a.block) (ho:SOff S D a.block) (v:Value):Hd1 w B g p r k S D H (W.setCell a v):=by
 have:=h.ne
 exact ⟨h.h0.other (by omega) (by omega) ho v,h.hb.other (by omega) v,h.ne⟩
theorem Hd2.put7 {q:Nat} {M:Msg} (h:Hd2 w B g p r k q S D H M W) (N:Msg):Hd2 w B g p r k q S D H N ((((((((W.setCell ⟨q,0,none⟩ (.int .i64 N.id)).setCell ⟨q,1,none⟩ (.int .i64 N.rt)).setCell ⟨q,2,none⟩ (.int .i64 N.ep)).setCell ⟨q,3,none⟩ (.int .i64 N.ct)).setCell ⟨q,4,none⟩ (.int .i64 N.gn)).setCell ⟨q,5,none⟩ (.int .i64 N.st)).setCell ⟨q,6,none⟩ (.string N.bd))):=by
 have e1:∀ o,k<(⟨q,o,none⟩:Addr).block:=fun _=>h.ne
 have e2:∀ o,SOff S D (⟨q,o,none⟩:Addr).block:=fun _=>h.off
 exact ⟨((((((h.h1.other (e1 0) (e2 0) _).other (e1 1) (e2 1) _).other (e1 2) (e2 2) _).other (e1 3) (e2 3) _).other (e1 4) (e2 4) _).other (e1 5) (e2 5) _).other (e1 6) (e2 6) _,h.mb.put7 N,h.ne,h.off⟩
theorem Hd2.frs {q:Nat} {M:Msg} (h:Hd2 w B g p r k q S D H M W):W.frozen? ⟨q,0,none⟩=false∧W.frozen? ⟨q,1,none⟩=false∧W.frozen? ⟨q,2,none⟩=false∧W.frozen? ⟨q,3,none⟩=false∧W.frozen? ⟨q,4,none⟩=false∧W.frozen? ⟨q,5,none⟩=false∧W.frozen? ⟨q,6,none⟩=false∧q<W.heap.size:=
 ⟨h.mb.fr 0,h.mb.fr 1,h.mb.fr 2,h.mb.fr 3,h.mb.fr 4,h.mb.fr 5,h.mb.fr 6,h.mb.lt⟩
theorem Hd1.cellt (h:Hd1 w B g p r k S D H W) {b o j:Nat} (hA:D.A2=some ⟨b,o,none⟩) (hj:j<S.l.length):b<W.heap.size:=by
 have:=h.h0.sr.el
 rw [hA] at this
 exact (this.c8 hj).2
theorem Hd1.out (h:Hd1 w B g p r k S D H W) (x0 x1 x2 x3:Value):SrcAt ((((W.setCell ⟨r,0,none⟩ x0).setCell ⟨r,1,none⟩ x1).setCell ⟨r,2,none⟩ x2).setCell ⟨r,3,none⟩ x3) B g∧w.grownBy ((((W.setCell ⟨r,0,none⟩ x0).setCell ⟨r,1,none⟩ x1).setCell ⟨r,2,none⟩ x2).setCell ⟨r,3,none⟩ x3) (some g):=
 Hd0.out h.h0.src h.h0.grow (by have:=h.h0.old;omega) h.h0.old.1 h.h0.old.2.2.2.1 _ _ _ _
theorem Hd1.outk (h:Hd1 w B g p r k S D H W) (o:Nat) (v x0 x1 x2 x3:Value):SrcAt (((((W.setCell ⟨k,o,none⟩ v).setCell ⟨r,0,none⟩ x0).setCell ⟨r,1,none⟩ x1).setCell ⟨r,2,none⟩ x2).setCell ⟨r,3,none⟩ x3) B g∧w.grownBy (((((W.setCell ⟨k,o,none⟩ v).setCell ⟨r,0,none⟩ x0).setCell ⟨r,1,none⟩ x1).setCell ⟨r,2,none⟩ x2).setCell ⟨r,3,none⟩ x3) (some g):=by
 have ho:=h.h0.old
 have hn:=h.ne
 exact Hd0.out (h.h0.src.other (p:=⟨k,o,none⟩) (show k≠g by omega) (show B≤k by omega) v) (only_set h.h0.grow (p:=⟨k,o,none⟩) (.inr (show w.heap.size≤k by omega)) v) (by omega) ho.1 ho.2.2.2.1 _ _ _ _
theorem Hd1.set4 (h:Hd1 w B g p r k S D H W) (hk:SOff S D k) (a b c d:Int):Hd1 w B g p r k S D ⟨a,b,c,d⟩ ((((W.setCell ⟨k,0,none⟩ (.int .i64 a)).setCell ⟨k,1,none⟩ (.int .i64 b)).setCell ⟨k,2,none⟩ (.int .i64 c)).setCell ⟨k,3,none⟩ (.int .i64 d)):=by
 have hn:=h.ne
 have e1:∀ o,(⟨k,o,none⟩:Addr).block≠r:=fun o=>show k≠r by omega
 have e2:∀ o,r<(⟨k,o,none⟩:Addr).block:=fun o=>hn
 exact ⟨(((h.h0.other (e1 0) (e2 0) hk _).other (e1 1) (e2 1) hk _).other (e1 2) (e2 2) hk _).other (e1 3) (e2 3) hk _,h.hb.set a b c d,hn⟩
theorem Hd1.cell (h:Hd1 w B g p r k S D H W) {b o j:Nat} (hA:D.A2=some ⟨b,o,none⟩) (hj:j<S.l.length):C8 W b (o+j*8) S.l[j]:=by
 have:=h.h0.sr.el
 rw [hA] at this
 exact (this.c8 hj).1
end
set_option maxHeartbeats 16000000 in
set_option maxRecDepth 20000 in
theorem handle_any (B g:Nat) (S:Sh) (D:Sx) (w:World) (h:SrcAt w B g) (hs:SR w w.heap.size S D) (ho:SOff S D g) (h12:S.l.length≤1000):Calls Tryz.prog 12 #[.pointer (some ⟨g,0,none⟩),sv S D] w (SrHn B g w):=by
 have H0:=Lh (show Hd0 w B g w.heap.size (w.heap.size+1) S D ((w.alloc (.cells #[.bool S.lv,.int .i64 S.lo,.int .i64 S.hi,.slice D.A S.cs.length D.c,.int .i64 S.hd,.int .i64 S.sz,.slice D.A2 S.l.length D.c2,.slice D.A3 S.h.length D.c3] 33)).alloc (.cells #[.int .i64 0,.int .i64 0,.int .i64 0,.int .i64 0] 40)) from by
  have b1:Below w.heap.size w (w.alloc (.cells #[.bool S.lv,.int .i64 S.lo,.int .i64 S.hi,.slice D.A S.cs.length D.c,.int .i64 S.hd,.int .i64 S.sz,.slice D.A2 S.l.length D.c2,.slice D.A3 S.h.length D.c3] 33)):=(Below.refl _ _).alloc (Nat.le_refl _) _
  have b2:=(Below.refl (w.alloc (.cells #[.bool S.lv,.int .i64 S.lo,.int .i64 S.hi,.slice D.A S.cs.length D.c,.int .i64 S.hd,.int .i64 S.sz,.slice D.A2 S.l.length D.c2,.slice D.A3 S.h.length D.c3] 33)).heap.size _).alloc (Nat.le_refl _) (.cells #[.int .i64 0,.int .i64 0,.int .i64 0,.int .i64 0] 40)
  have hr:=Hb.start (w.alloc (.cells #[.bool S.lv,.int .i64 S.lo,.int .i64 S.hi,.slice D.A S.cs.length D.c,.int .i64 S.hd,.int .i64 S.sz,.slice D.A2 S.l.length D.c2,.slice D.A3 S.h.length D.c3] 33)) 0 0 0 0 40
  rw [show (w.alloc (.cells #[.bool S.lv,.int .i64 S.lo,.int .i64 S.hi,.slice D.A S.cs.length D.c,.int .i64 S.hd,.int .i64 S.sz,.slice D.A2 S.l.length D.c2,.slice D.A3 S.h.length D.c3] 33)).heap.size=w.heap.size+1 by simp] at hr
  exact ⟨(h.alloc _).alloc _,(SB8.start w S D _).up b2,(hs.up b1).up b2,ho,hr,only_alloc (only_alloc (World.grownBy.refl w (some g)) _) _,h.2.1,Nat.le_refl _,Nat.lt_succ_self _,h.1,by simp⟩)
 have HL:=Lh h12
 have HOF:=Lh (fun q (hq:w.heap.size≤q)=>hs.offs hq)
 clear h hs ho h12
 go_enter Tryz.func12,Tryz.ntmps12
 go_wp2_with fail
 obtain ⟨p,hp⟩:∃ p,p=w.heap.size:=⟨_,rfl⟩
 obtain ⟨r,hr⟩:∃ r,r=w.heap.size+1:=⟨_,rfl⟩
 have HPW:=Lh hp
 rw [←hr,←hp] at H0
 rw [←hr,←hp]
 clear hr hp
 generalize ((w.alloc (.cells #[.bool S.lv,.int .i64 S.lo,.int .i64 S.hi,.slice D.A S.cs.length D.c,.int .i64 S.hd,.int .i64 S.sz,.slice D.A2 S.l.length D.c2,.slice D.A3 S.h.length D.c3] 33)).alloc (.cells #[.int .i64 0,.int .i64 0,.int .i64 0,.int .i64 0] 40))=w1 at*
 refine (range_any B g _ H0.out.src 1 20 (by omega) (by omega) (by omega)).mono ?_
 rintro e w2 ⟨x0,rfl,_,_,hs,hg⟩
 have H0:=Lh (H0.out.turn hs hg)
 clear hs hg
 go_wp2_with fail
 refine (range_any B g _ H0.out.src 1 4 (by omega) (by omega) (by omega)).mono ?_
 rintro e w2 ⟨x1,rfl,_,_,hs,hg⟩
 have H0:=Lh (H0.out.turn hs hg)
 clear hs hg
 go_wp2_with fail
 refine (n_any B g _ H0.out.src 65536 (by omega) (by omega)).mono ?_
 rintro e w2 ⟨x2,rfl,_,_,hs,hg⟩
 have H0:=Lh (H0.out.turn hs hg)
 clear hs hg
 go_wp2_with fail
 refine (n_any B g _ H0.out.src 6 (by omega) (by omega)).mono ?_
 rintro e w2 ⟨x3,rfl,_,_,hs,hg⟩
 have H0:=Lh (H0.out.turn hs hg)
 clear hs hg
 have HK:=Lh (show Hd1 w B g p r w2.heap.size S D ⟨x0,x1,x2,x3⟩ (w2.alloc (.cells #[.int .i64 x0,.int .i64 x1,.int .i64 x2,.int .i64 x3] 40)) from ⟨H0.out.alloc _,Hb.start w2 x0 x1 x2 x3 _,H0.out.old.2.2.2.2⟩)
 have HKO:=Lh (show SOff S D w2.heap.size from HOF.out _ (by have:=H0.out.old;omega))
 obtain ⟨⟨t0,t1,t2,t3,t4,t5,t6,t7,tl⟩,-⟩:=HK.out.h0.sb.all
 by_cases hl0:S.l.length=0
 ·have hl0' : ¬(0:Int)<(S.l.length:Int):=by omega
  clear H0
  have HNE:=Lh (show ¬r=w2.heap.size∧¬w2.heap.size=r by have:=HK.out.ne;omega)
  obtain ⟨⟨a0,a1,a2,a3,al⟩,b0,b1,b2,b3⟩:=HK.out.hb.all
  obtain ⟨⟨c0,c1,c2,c3,cl⟩,d0,d1,d2,d3⟩:=HK.out.h0.rs.all
  obtain ⟨hrk,hkr⟩:=HNE.out
  go_wp2
  exact bodyPost_ret (v:=Hn.v ⟨x0,x1,x2,x3⟩) (by simp only [results,Tryz.results12];go_simp <;> rfl) rfl ⟨_,rfl,HK.out.out _ _ _ _⟩
 ·have hl0' : (0:Int)<(S.l.length:Int):=by omega
  have hl0n:0<S.l.length:=by omega
  have hl1:(S.l.length:Int)≤1000:=by have:=HL.out;omega
  clear H0
  go_wp2_with fail
  obtain ⟨k,hk⟩:∃ k,k=w2.heap.size:=⟨_,rfl⟩
  rw [←hk] at HK HKO ⊢
  clear hk
  have HNE:=Lh (show ¬r=k∧¬k=r by have:=HK.out.ne;omega)
  refine (n_any B g _ HK.out.h0.src 5 (by omega) (by omega)).mono ?_
  rintro e w5 ⟨z,rfl,_,_,hs,hg⟩
  have HK:=Lh (HK.out.turn hs hg)
  clear hs hg t0 t1 t2 t3 t4 t5 t6 t7 tl
  obtain ⟨⟨t0,t1,t2,t3,t4,t5,t6,t7,tl⟩,-⟩:=HK.out.h0.sb.all
  by_cases hz:0<z
  ·obtain ⟨b,o,hA,_⟩:=HK.out.h0.sr.el.some_ hl0n
   have HA:=Lh hA
   have hz0:(0:Int)<z:=hz
   go_upto_region 4 with (fail)
   have HN:=Lh (fun W (h:Hd1 w B g p r k S D ⟨x0,x1,x2,x3⟩ W)=>n_any B g W h.h0.src S.l.length (by omega) (by omega))
   have HD:=Lh HK.out.drew
   have HD2:=Lh (show Hd2 w B g p r k w5.heap.size S D ⟨x0,x1,x2,x3⟩ ⟨0,0,0,0,0,0,⟨#[]⟩⟩ (w5.alloc (.cells #[.int .i64 0,.int .i64 0,.int .i64 0,.int .i64 0,.int .i64 0,.int .i64 0,.string ⟨#[]⟩] 56)).drew from (Hd2.start HK.out (HOF.out _ (by have:=HK.out.h0.old;omega)) ⟨0,0,0,0,0,0,⟨#[]⟩⟩ 56).drew)
   obtain ⟨⟨t0,t1,t2,t3,t4,t5,t6,t7,tl⟩,-⟩:=HK.out.h0.sb.all
   rw [hA] at t6
   go_cut [7] (fun s7 wx=>∃ (q:Nat) (M:Msg),s7=.pointer (some ⟨q,0,none⟩)∧Hid (Hd2 w B g p r k q S D ⟨x0,x1,x2,x3⟩ M wx))
   case first=>
    go_region_law (first
     | (go_simp;go_at_call 14;(with_reducible refine (HN.out _ HD.out).mono ?_);rintro e w6 ⟨x,rfl,i0,i1,hs,hg⟩;obtain ⟨j,rfl⟩:=Int.eq_ofNat_of_zero_le i0;have hj:j<S.l.length:=(by omega);have hji:(j:Int)<(S.l.length:Int):=(by omega);have HD:=Lh (HD.out.turn hs hg);obtain ⟨y0,y1,y2,y3,y4,y5,y6,y7⟩:=HD.out.cell HA.out hj;have hbl:=HD.out.cellt HA.out hj;clear t0 t1 t2 t3 t4 t5 t6 t7 tl i0 i1 hs hg;obtain ⟨⟨t0,t1,t2,t3,t4,t5,t6,t7,tl⟩,-⟩:=HD.out.h0.sb.all;rw [HA.out] at t6;have HGA:=Lh (fun M=>Hd2.start HD.out (HOF.out _ (by have:=HD.out.h0.old;omega)) M 56))
     | (go_simp;go_at_call 14;(with_reducible refine (HN.out _ HD2.out.h1).mono ?_);rintro e w6 ⟨x,rfl,i0,i1,hs,hg⟩;obtain ⟨j,rfl⟩:=Int.eq_ofNat_of_zero_le i0;have hj:j<S.l.length:=(by omega);have hji:(j:Int)<(S.l.length:Int):=(by omega);have HD2:=Lh (HD2.out.turn hs hg);obtain ⟨y0,y1,y2,y3,y4,y5,y6,y7⟩:=HD2.out.h1.cell HA.out hj;have hbl:=HD2.out.h1.cellt HA.out hj;clear t0 t1 t2 t3 t4 t5 t6 t7 tl i0 i1 hs hg;obtain ⟨⟨t0,t1,t2,t3,t4,t5,t6,t7,tl⟩,-⟩:=HD2.out.h1.h0.sb.all;rw [HA.out] at t6;obtain ⟨u0,u1,u2,u3,u4,u5,u6⟩:=HD2.out.mb.m7;obtain ⟨f0,f1,f2,f3,f4,f5,f6,ul⟩:=HD2.out.frs;have HGA:=Lh (fun M=>HD2.out.put7 M)))
    all_goals (go_wp2_with fail;go_meet;exact ⟨_,S.l[j].m,rfl,Lh (HGA.out _)⟩)
   case rest=>
    obtain ⟨q,M,rfl,H2⟩:=hcut
    generalize wc=w7 at*
    have HK:=Lh (H2.out.h1.set4 HKO.out M.id M.gn M.rt x3)
    obtain ⟨v0,v1,v2,v3,v4,v5,v6⟩:=H2.out.mb.m7
    have vl:=H2.out.mb.lt
    obtain ⟨⟨a0,a1,a2,a3,al⟩,b0,b1,b2,b3⟩:=H2.out.h1.hb.all
    have hqk:¬q=k∧¬k=q:=by have:=H2.out.ne;omega
    obtain ⟨hqk,hkq⟩:=hqk
    go_wp2_with fail
    clear a0 a1 a2 a3 al b0 b1 b2 b3 v0 v1 v2 v3 v4 v5 v6 vl
    refine (n_any B g _ HK.out.h0.src 8 (by omega) (by omega)).mono ?_
    rintro e w8 ⟨y,rfl,_,_,hs,hg⟩
    have HK:=Lh (HK.out.turn hs hg)
    clear hs hg
    by_cases hy0:y=0
    ·subst hy0
     obtain ⟨⟨a0,a1,a2,a3,al⟩,b0,b1,b2,b3⟩:=HK.out.hb.all
     obtain ⟨⟨c0,c1,c2,c3,cl⟩,d0,d1,d2,d3⟩:=HK.out.h0.rs.all
     obtain ⟨hrk,hkr⟩:=HNE.out
     go_wp2
     exact bodyPost_ret (v:=Hn.v ⟨M.id,wrap64 (M.gn+1),M.rt,x3⟩) (by simp only [results,Tryz.results12];go_simp <;> rfl) rfl ⟨_,rfl,HK.out.outk 1 _ _ _ _ _⟩
    by_cases hy1:y=1
    ·subst hy1
     obtain ⟨⟨a0,a1,a2,a3,al⟩,b0,b1,b2,b3⟩:=HK.out.hb.all
     obtain ⟨⟨c0,c1,c2,c3,cl⟩,d0,d1,d2,d3⟩:=HK.out.h0.rs.all
     obtain ⟨hrk,hkr⟩:=HNE.out
     go_wp2
     exact bodyPost_ret (v:=Hn.v ⟨M.id,M.gn,(wrap64 (M.rt+1)).tmod 65536,x3⟩) (by simp only [results,Tryz.results12];go_simp <;> rfl) rfl ⟨_,rfl,HK.out.outk 2 _ _ _ _ _⟩
    have hn0:(y==0)=false:=by simpa using hy0
    have hn1:(y==1)=false:=by simpa using hy1
    obtain ⟨⟨a0,a1,a2,a3,al⟩,b0,b1,b2,b3⟩:=HK.out.hb.all
    obtain ⟨⟨c0,c1,c2,c3,cl⟩,d0,d1,d2,d3⟩:=HK.out.h0.rs.all
    obtain ⟨hrk,hkr⟩:=HNE.out
    go_wp2
    exact bodyPost_ret (v:=Hn.v ⟨M.id,M.gn,M.rt,x3⟩) (by simp only [results,Tryz.results12];go_simp <;> rfl) rfl ⟨_,rfl,HK.out.out _ _ _ _⟩
  ·obtain ⟨⟨a0,a1,a2,a3,al⟩,b0,b1,b2,b3⟩:=HK.out.hb.all
   obtain ⟨⟨c0,c1,c2,c3,cl⟩,d0,d1,d2,d3⟩:=HK.out.h0.rs.all
   obtain ⟨hrk,hkr⟩:=HNE.out
   go_wp2
   exact bodyPost_ret (v:=Hn.v ⟨x0,x1,x2,x3⟩) (by simp only [results,Tryz.results12];go_simp <;> rfl) rfl ⟨_,rfl,HK.out.out _ _ _ _⟩
set_option maxHeartbeats 2000000 in
theorem rspan7_any (lo hi:Int) (w:World):Calls Tryz.prog 62 #[.int .i64 lo,.int .i64 hi] w fun e w'=>e=.returned (.bool (spB lo hi))∧w' = w:=by
 have HB:∀ b,(spB lo hi=true↔b=true)→Hid (spB lo hi=b):=fun b h=>Lh (by cases h1:spB lo hi <;> cases b <;> simp_all)
 by_cases h1:0≤lo
 ·by_cases h2:lo≤hi
  ·by_cases h3:hi<65536
   ·have HX:=HB true (by rw [spB_iff];simp;omega)
    go_enter Tryz.func62,Tryz.ntmps62
    go_wp2
    go_ret
    exact ⟨by rw [HX.out];rfl,rfl⟩
   ·have HX:=HB false (by rw [spB_iff];simp;omega)
    go_enter Tryz.func62,Tryz.ntmps62
    go_wp2
    go_ret
    exact ⟨by rw [HX.out];rfl,rfl⟩
  ·have HX:=HB false (by rw [spB_iff];simp;omega)
   go_enter Tryz.func62,Tryz.ntmps62
   go_wp2
   go_ret
   exact ⟨by rw [HX.out];rfl,rfl⟩
 ·have HX:=HB false (by rw [spB_iff];simp;omega)
  go_enter Tryz.func62,Tryz.ntmps62
  go_wp2
  go_ret
  exact ⟨by rw [HX.out];rfl,rfl⟩
/-- The box and the list of all messages. -/
structure VaAt (w:World) (p:Nat) (S:Sh) (D:Sx) (v:Value) (L:List Msg) (W:World):Prop where
 sa:SAt w p S D W
 ls:Ls W W.heap.size v L
theorem VaAt.below {w W W' : World} {p:Nat} {S:Sh} {D:Sx} {v:Value} {L:List Msg} (h:VaAt w p S D v L W) (hb:Below W.heap.size W W'):VaAt w p S D v L W':=⟨h.sa.below hb,h.ls.upz hb⟩
theorem below_dn (w:World) (n:Nat):Below w.heap.size w (w.drewN n):=⟨rfl,rfl,rfl,Nat.le_refl _,fun _ _=>rfl⟩
theorem rtB_yes {lo hi:Int} {l:List Msg} {k:Nat} (hk:k<l.length) (h:l[k].rt<lo∨hi<l[k].rt):rtB lo hi l=true:=by
 cases h0:rtB lo hi l with
 | true=>rfl
 | false=>have:=rtB_no.1 h0 _ (List.getElem_mem hk);omega
theorem rtB_get {lo hi:Int} {l:List Msg} (h:∀ k (hk:k<l.length),lo≤l[k].rt∧l[k].rt≤hi):rtB lo hi l=false:=by
 rw [rtB_no]
 intro M hM
 obtain ⟨k,hk,rfl⟩:=List.getElem_of_mem hM
 exact h k hk
set_option maxHeartbeats 8000000 in
set_option maxRecDepth 20000 in
theorem rvalid7_any (S:Sh) (D:Sx) (w:World) (hs:SR w w.heap.size S D) :
  Calls Tryz.prog 20 #[sv S D] w (VlT w (shV S)):=by
 have H0:=Lh (SAt.start 33 hs)
 have HRG:=Lh (fun p W (k:SAt w p S D W)=>rvalid_any D.A S.cs.length D.c S.cs S.hd S.sz W k.sr.ls)
 have HTB:=Lh (fun p W (k:SAt w p S D W)=>rtvalid_any D.A2 S.l.length D.c2 S.l D.A3 S.h.length D.c3 S.h W k.sr.el k.sr.dl)
 clear hs
 go_enter Tryz.func20,Tryz.ntmps20
 obtain ⟨t0,t1,t2,t3,t4,t5,t6,t7,tl⟩:=H0.out.s8.facts
 go_wp2_with fail
 clear t0 t1 t2 t3 t4 t5 t6 t7 tl
 obtain ⟨p,hp⟩:∃ p,p=w.heap.size:=⟨_,rfl⟩
 rw [←hp]
 rw [←hp] at H0
 clear hp
 generalize w.alloc (.cells #[.bool S.lv,.int .i64 S.lo,.int .i64 S.hi,.slice D.A S.cs.length D.c,.int .i64 S.hd,.int .i64 S.sz,.slice D.A2 S.l.length D.c2,.slice D.A3 S.h.length D.c3] 33)=w1 at*
 refine (HRG.out _ _ H0.out).mono ?_
 rintro e w2 ⟨rfl,hb⟩
 have H1:=Lh (H0.out.below hb)
 clear hb
 by_cases h1:rgV S.cs S.hd S.sz=0
 ·have HNU:=Lh (rg_nums h1)
  have HX1:=Lh h1
  rw [h1]
  clear h1
  obtain ⟨t0,t1,t2,t3,t4,t5,t6,t7,tl⟩:=H1.out.s8.facts
  go_wp2_with fail
  clear t0 t1 t2 t3 t4 t5 t6 t7 tl
  refine (HTB.out _ _ H1.out).mono ?_
  rintro e w3 ⟨rfl,hb⟩
  have H2:=Lh (H1.out.below hb)
  clear hb
  by_cases h2:tbV S.l S.h=0
  ·have HNT:=Lh (tb_nums h2)
   have HX2:=Lh h2
   rw [h2]
   clear h2
   have hwr:IntKind.i64.wrap (S.sz+(S.l.length:Int))=S.sz+(S.l.length:Int):=IntWalk.i64_in _ (by have h1:=HNU.out.2.2;have h2:=HNT.out.1;omega)
   cases hlv:S.lv with
   | true=>
    have HX:=Lh (shV_li HX1.out HX2.out hlv)
    have HE1:=Lh (fun h=>liE_1 (S:=S) h)
    have HE3:=Lh (fun h g=>liE_3 (S:=S) h g)
    have HE12:=Lh (fun h g k=>liE_12 (S:=S) h g k)
    have HE10:=Lh (fun h g k d=>liE_10 (S:=S) h g k d)
    have HE0:=Lh (fun h g k d=>liE_0 (S:=S) h g k d)
    rw [HX.out]
    generalize liE S=x at*
    have HSP:=Lh (fun W=>rspan7_any S.lo S.hi W)
    have HAL:=Lh (fun W (k:SAt w p S D W)=>rall_any S D W k.sr (by have:=lsF_le S.cs S.hd S.sz;omega) (by have:=HNT.out.1;omega))
    have hsv:(Value.agg #[.bool true,.int .i64 S.lo,.int .i64 S.hi,.slice D.A S.cs.length D.c,.int .i64 S.hd,.int .i64 S.sz,.slice D.A2 S.l.length D.c2,.slice D.A3 S.h.length D.c3])=sv S D:=by show _=Value.agg _;rw [hlv]
    obtain ⟨t0,t1,t2,t3,t4,t5,t6,t7,tl⟩:=H2.out.s8.facts
    rw [hlv] at t0
    clear hlv
    go_wp2_with fail
    clear t0 t1 t2 t3 t4 t5 t6 t7 tl
    refine (HSP.out _).mono ?_
    rintro e w4 ⟨rfl,rfl⟩
    cases hsp:spB S.lo S.hi with
    | false=>
     have HY:=Lh (HE1.out hsp)
     go_wp2
     go_ret
     exact ⟨by first | (rw [HX.out,HY.out];rfl) | (rw [HY.out];rfl),H2.out.bel⟩
    | true=>
     have HX3:=Lh hsp
     clear hsp
     obtain ⟨t0,t1,t2,t3,t4,t5,t6,t7,tl⟩:=H2.out.s8.facts
     by_cases hfu:(S.cs.length:Int)<S.sz+S.l.length
     ·have HY:=Lh (HE3.out HX3.out hfu)
      go_wp2
      go_ret
      exact ⟨by first | (rw [HX.out,HY.out];rfl) | (rw [HY.out];rfl),H2.out.bel⟩
     ·have HX4:=Lh hfu
      have HE12:=Lh (fun k=>HE12.out HX3.out (Int.not_lt.1 HX4.out) k)
      have HE10:=Lh (fun k d=>HE10.out HX3.out (Int.not_lt.1 HX4.out) k d)
      have HE0:=Lh (fun k d=>HE0.out HX3.out (Int.not_lt.1 HX4.out) k d)
      clear HE1 HE3
      go_wp2_with fail
      clear t0 t1 t2 t3 t4 t5 t6 t7 tl
      refine (HAL.out _ H2.out).mono ?_
      generalize S.al=L at*
      rintro e w5 ⟨A,c,rfl,hl,hb⟩
      have HA:=Lh (show VaAt w p S D (.slice A L.length c) L w5 from ⟨H2.out.below hb,hl⟩)
      have hm:=hl.len
      have hL:L.length≤9223372036854775807:=by have:=hm.2.2;unfold maxLen at this;omega
      clear hl hb hm hfu hwr
      go_wp2
      go_loopw [7] (fun i wr=>∃ k:Nat,k≤L.length∧i=.int .i64 k∧VaAt w p S D (.slice A L.length c) L wr∧∀ j (hj:j<L.length),j<k→S.lo≤L[j].rt∧L[j].rt≤S.hi) (fun i _=>L.length - (intOf i).toNat)
      case atStart=>exact ⟨0,Nat.zero_le _,rfl,HA.out,fun j hj h=>absurd h (by omega)⟩
      case round=>
       obtain ⟨k,hk,rfl,hva,hno⟩:=hrel
       have HV:=Lh hva
       have HNO:=Lh hno
       clear hva hno HA
       by_cases hlt:k<L.length
       ·obtain ⟨b,o,rfl,hbl,x0,x1,x2,x3,x4,x5,x6⟩:=HV.out.ls.at_ hlt
        have HYS:=Lh (rtB_yes (lo:=S.lo) (hi:=S.hi) hlt)
        have HKK:=Lh (fun (h1:S.lo≤L[k].rt) (h2:L[k].rt≤S.hi) j (hj:j<L.length) (h:j<k+1)=>show S.lo≤L[j].rt∧L[j].rt≤S.hi from by
         by_cases e:j=k
         ·subst e;exact ⟨h1,h2⟩
         ·exact HNO.out j hj (by omega))
        clear x0 x2 x3 x4 x5 x6
        generalize L[k].rt=R at*
        obtain ⟨t0,t1,t2,t3,t4,t5,t6,t7,tl⟩:=HV.out.sa.s8.facts
        by_cases h1:R<S.lo
        ·have HY:=Lh (HE12.out (HYS.out (.inl h1)))
         have hd:decide (R<S.lo)=true:=decide_eq_true h1
         go_wp2
         go_quiet (fail)
         go_wp2
         go_ret
         exact ⟨by first | (rw [HX.out,HY.out];rfl) | (rw [HY.out];rfl),(HV.out.below (below_dn _ _)).sa.bel⟩
        ·have hd:decide (R<S.lo)=false:=decide_eq_false h1
         by_cases h2:S.hi<R
         ·have HY:=Lh (HE12.out (HYS.out (.inr h2)))
          go_wp2
          go_quiet (fail)
          go_wp2
          go_ret
          exact ⟨by first | (rw [HX.out,HY.out];rfl) | (rw [HY.out];rfl),(HV.out.below (below_dn _ _)).sa.bel⟩
         ·have HKJ:=Lh (HKK.out (by omega) (by omega))
          go_wp2
          go_quiet (fail)
          go_wp2
          go_roundw
          case rel=>exact ⟨k+1,by omega,by go_num,HV.out.below (below_dn _ _),HKJ.out⟩
          case measure=>simp [intOf];omega
       ·have HR0:=Lh (rtB_get (lo:=S.lo) (hi:=S.hi) (l:=L) (fun j hj=>HNO.out j hj (by omega)))
        have HE10:=Lh (HE10.out HR0.out)
        have HE0:=Lh (HE0.out HR0.out)
        clear HNO HE12 HR0
        go_wp2
        go_loopw [8] (fun i ws=>∃ k:Nat,k≤L.length∧i=.int .i64 k∧VaAt w p S D (.slice A L.length c) L ws∧∀ j (hj:j<L.length),j<k→ixF L L[j].id=j) (fun i _=>L.length - (intOf i).toNat)
        case atStart=>exact ⟨0,Nat.zero_le _,rfl,HV.out,fun j hj h=>absurd h (by omega)⟩
        case round=>
         obtain ⟨k,hk,rfl,hva,hno⟩:=hrel
         have HV:=Lh hva
         have HNO:=Lh hno
         clear hva hno
         by_cases hlt:k<L.length
         ·obtain ⟨b,o,rfl,hbl,x0,x1,x2,x3,x4,x5,x6⟩:=HV.out.ls.at_ hlt
          have HIX:=Lh (fun W B (h:Ls W B (.slice (some ⟨b,o,none⟩) L.length c) L)=>rindex_any (some ⟨b,o,none⟩) L.length c L L[k].id W B h)
          have HDU:=Lh (ix_other hlt)
          have HKK:=Lh (fun (h1:ixF L L[k].id=(k:Int)) j (hj:j<L.length) (h:j<k+1)=>show ixF L L[j].id=(j:Int) from by
           by_cases e:j=k
           ·subst e;exact h1
           ·exact HNO.out j hj (by omega))
          clear x1 x2 x3 x4 x5 x6
          generalize L[k].id=R at*
          go_wp2_with fail
          refine (HIX.out _ _ HV.out.ls).mono ?_
          rintro e w6 ⟨rfl,rfl⟩
          generalize ixF L R=Q at*
          by_cases hq:Q=(k:Int)
          ·have hne:(Q != (k:Int))=false:=by simp [hq]
           have HKJ:=Lh (HKK.out hq)
           clear hq HKK HDU
           go_wp2
           go_roundw
           case rel=>exact ⟨k+1,by omega,by go_num,HV.out,HKJ.out⟩
           case measure=>simp [intOf];omega
          ·have hne:(Q != (k:Int))=true:=by simp [hq]
           have HY:=Lh (HE10.out (dpB_yes (HDU.out hq)))
           clear hq HKK HDU
           go_wp2
           go_ret
           exact ⟨by first | (rw [HX.out,HY.out];rfl) | (rw [HY.out];rfl),HV.out.sa.bel⟩
         ·have HY:=Lh (HE0.out (dpB_no (dup_none (fun j hj=>HNO.out j hj (by omega)))))
          go_wp2
          go_ret
          exact ⟨by first | (rw [HX.out,HY.out];rfl) | (rw [HY.out];rfl),HV.out.sa.bel⟩
   | false=>
    have HX:=Lh (shV_of HX1.out HX2.out hlv)
    obtain ⟨t0,t1,t2,t3,t4,t5,t6,t7,tl⟩:=H2.out.s8.facts
    rw [hlv] at t0
    clear hlv
    by_cases hlo:S.lo=0
    ·have blo:(S.lo != 0)=false:=by simp [hlo]
     have HLO:=Lh hlo
     clear hlo
     by_cases hhi:S.hi=0
     ·have bhi:(S.hi != 0)=false:=by simp [hhi]
      have HHI:=Lh hhi
      clear hhi
      by_cases hz:0<S.sz+S.l.length
      ·go_wp2
       go_ret
       exact ⟨by rw [HX.out,if_pos (.inr (.inr hz))];rfl,H2.out.bel⟩
      ·go_wp2
       go_ret
       exact ⟨by rw [HX.out,if_neg (by have:=HLO.out;have:=HHI.out;omega)];rfl,H2.out.bel⟩
     ·have bhi:(S.hi != 0)=true:=by simp [hhi]
      have HHI:=Lh hhi
      clear hhi
      go_wp2
      go_ret
      exact ⟨by rw [HX.out,if_pos (.inr (.inl HHI.out))];rfl,H2.out.bel⟩
    ·have blo:(S.lo != 0)=true:=by simp [hlo]
     have HLO:=Lh hlo
     clear hlo
     go_wp2
     go_ret
     exact ⟨by rw [HX.out,if_pos (.inl HLO.out)];rfl,H2.out.bel⟩
  ·have HX:=Lh (shV_tb HX1.out h2)
   have hne:(tbV S.l S.h != 0)=true:=bne_iff_ne.2 h2
   go_wp2
   go_ret
   exact ⟨by first | (rw [HX.out];rfl) | rfl,H2.out.bel⟩
 ·have HX:=Lh (shV_rg h1)
  have hne:(rgV S.cs S.hd S.sz != 0)=true:=bne_iff_ne.2 h1
  go_wp2
  go_ret
  exact ⟨by first | (rw [HX.out];rfl) | rfl,H1.out.bel⟩
/-- A yes or no of a source. -/
def SrBool (B g:Nat) (w:World) (e:Ending) (w' : World):Prop:=∃ b:Bool,e=.returned (.bool b)∧SrcAt w' B g∧w.grownBy w' (some g)
set_option maxHeartbeats 2000000 in
theorem more_any (B g:Nat) (w:World) (h:SrcAt w B g):Calls Tryz.prog 10 #[.pointer (some ⟨g,0,none⟩)] w (SrBool B g w):=by
 have H:=Lh h
 obtain ⟨hB,hg,A,n,c,k,zs,a1,a2,a3,a4,a5,a6,a7,a8,a9⟩:=h
 have HK:=Lh (show ∀ b:Bool,decide ((k:Int)<(n:Int))=b→True from fun _ _=>trivial)
 clear hB hg a2 a3 a4 a8 a9
 go_enter Tryz.func10,Tryz.ntmps10
 go_wp2
 go_quiet (fail)
 go_wp2
 go_ret
 exact ⟨_,rfl,H.out.drewN _,only_drewN (World.grownBy.refl _ _) _⟩
/-- The source and the shard. -/
structure CnAt (w:World) (g p:Nat) (S:Sh) (D:Sx) (W:World):Prop where
 src:SrcAt W w.heap.size g
 sa:SAt w p S D W
 off:SOff S D g
 gp:g<p
/-- .. the numbers (rN) and the handle (rH), the boxes for them (q, u) and what these hold. -/
structure CnX (w:World) (g p:Nat) (S:Sh) (D:Sx) (q u:Option (Nat×Nm×Hn)) (W:World):Prop where
 cn:CnAt w g p S D W
 fq:∀ x,q=some x→Nb W x.1 x.2.1∧p<x.1∧SOff S D x.1
 fu:∀ x,u=some x→Hb W x.1 x.2.2∧p<x.1∧SOff S D x.1
 ne:∀ x y,q=some x→u=some y→x.1≠y.1
section
variable {w W W' : World} {g p q u:Nat} {S:Sh} {D:Sx} {N N' : Nm} {H H' : Hn} {a b:Option (Nat×Nm×Hn)}
theorem CnAt.bg (h:CnAt w g p S D W):w.heap.size≤g:=h.src.1
theorem CnAt.turn (h:CnAt w g p S D W) (hs:SrcAt W' w.heap.size g) (hg:W.grownBy W' (some g)):CnAt w g p S D W':=⟨hs,h.sa.grownG hg h.off (by have:=h.gp;omega) h.bg,h.off,h.gp⟩
theorem CnAt.below (h:CnAt w g p S D W) (hb:Below W.heap.size W W'):CnAt w g p S D W':=⟨h.src.below hb,h.sa.below hb,h.off,h.gp⟩
theorem CnX.turn (h:CnX w g p S D a b W) (hs:SrcAt W' w.heap.size g) (hg:W.grownBy W' (some g)):CnX w g p S D a b W':=
 ⟨h.cn.turn hs hg,fun x e=>⟨(h.fq x e).1.grown hg (fun e'=>by injection e' with e';have:=(h.fq x e).2.1;have:=h.cn.gp;omega),(h.fq x e).2⟩,fun x e=>⟨(h.fu x e).1.grown hg (by have:=(h.fu x e).2.1;have:=h.cn.gp;omega),(h.fu x e).2⟩,h.ne⟩
theorem CnX.below (h:CnX w g p S D a b W) (hb:Below W.heap.size W W'):CnX w g p S D a b W':=
 ⟨h.cn.below hb,fun x e=>⟨(h.fq x e).1.up hb,(h.fq x e).2⟩,fun x e=>⟨(h.fu x e).1.up hb,(h.fu x e).2⟩,h.ne⟩
theorem CnX.drew (h:CnX w g p S D a b W):CnX w g p S D a b W.drew:=h.below (Below.refl _ _).drew
theorem CnX.start (h:CnAt w g p S D W):CnX w g p S D none none W:=⟨h,fun x e=>(by cases e),fun x e=>(by cases e),fun x y e=>(by cases e)⟩
theorem CnX.aq (h:CnX w g p S D none b W) (N:Nm) (t:TypeId):CnX w g p S D (some (W.heap.size,N,⟨0,0,0,0⟩)) b (W.alloc (.cells #[.int .i64 N.mx,.int .i64 N.now,.int .i64 N.vis,.int .i64 N.ep,.int .i64 N.lim,.int .i64 N.k,.int .i64 N.mid,.int .i64 N.rt] t)):=by
 have k:=h.below ((Below.refl _ _).alloc (Nat.le_refl _) (.cells #[.int .i64 N.mx,.int .i64 N.now,.int .i64 N.vis,.int .i64 N.ep,.int .i64 N.lim,.int .i64 N.k,.int .i64 N.mid,.int .i64 N.rt] t))
 refine ⟨k.cn,fun x e=>?_,k.fu,fun x y e e'=>?_⟩
 ·injection e with e;subst e
  exact ⟨Nb.start W N t,h.cn.sa.s8.lt,h.cn.sa.sr.offs (Nat.le_refl _)⟩
 ·injection e with e;subst e
  have:=(h.fu y e').1.lt
  show W.heap.size≠y.1
  omega
theorem CnX.au (h:CnX w g p S D a none W) (x0 x1 x2 x3:Int) (t:TypeId):CnX w g p S D a (some (W.heap.size,⟨0,0,0,0,0,0,0,0⟩,⟨x0,x1,x2,x3⟩)) (W.alloc (.cells #[.int .i64 x0,.int .i64 x1,.int .i64 x2,.int .i64 x3] t)):=by
 have k:=h.below ((Below.refl _ _).alloc (Nat.le_refl _) (.cells #[.int .i64 x0,.int .i64 x1,.int .i64 x2,.int .i64 x3] t))
 refine ⟨k.cn,k.fq,fun x e=>?_,fun x y e e'=>?_⟩
 ·injection e with e;subst e
  exact ⟨Hb.start W x0 x1 x2 x3 t,h.cn.sa.s8.lt,h.cn.sa.sr.offs (Nat.le_refl _)⟩
 ·injection e' with e';subst e'
  have:=(h.fq x e).1.lt
  show x.1≠W.heap.size
  omega
theorem CnAt.other (h:CnAt w g p S D W) {x:Addr} (hx:p<x.block) (ho:SOff S D x.block) (v:Value):CnAt w g p S D (W.setCell x v):=by
 have h1:=h.gp
 have h2:=h.bg
 exact ⟨h.src.other (p:=x) (by omega) (by omega) v,⟨h.sa.s8.other (by omega) v,(h.sa.sr.offp ho v).more (by simp),h.sa.off,h.sa.bel.setCell (p:=x) (by omega) v,h.sa.old⟩,h.off,h.gp⟩
theorem CnAt.sets {y:Nat} (hx:p<y) (ho:SOff S D y):∀ (vs:List Value) (m:Nat) (W:World),CnAt w g p S D W→CnAt w g p S D (W.setCells y m vs)
 | [],_,_,h=>h
 | v::r,m,W,h=>CnAt.sets hx ho r (m+1) _ (h.other (x:=⟨y,m,none⟩) hx ho v)
theorem CnX.aq0 (h:CnX w g p S D none b W) (t:TypeId):CnX w g p S D (some (W.heap.size,⟨0,0,0,0,0,0,0,0⟩,⟨0,0,0,0⟩)) b (W.alloc (.cells #[.int .i64 0,.int .i64 0,.int .i64 0,.int .i64 0,.int .i64 0,.int .i64 0,.int .i64 0,.int .i64 0] t)):=h.aq ⟨0,0,0,0,0,0,0,0⟩ t
theorem CnX.au0 (h:CnX w g p S D a none W) (t:TypeId):CnX w g p S D a (some (W.heap.size,⟨0,0,0,0,0,0,0,0⟩,⟨0,0,0,0⟩)) (W.alloc (.cells #[.int .i64 0,.int .i64 0,.int .i64 0,.int .i64 0] t)):=h.au 0 0 0 0 t
theorem CnX.qu0 (h:CnX w g p S D none none W) (t t' : TypeId):CnX w g p S D (some (W.heap.size,⟨0,0,0,0,0,0,0,0⟩,⟨0,0,0,0⟩)) (some (W.heap.size+1,⟨0,0,0,0,0,0,0,0⟩,⟨0,0,0,0⟩)) ((W.alloc (.cells #[.int .i64 0,.int .i64 0,.int .i64 0,.int .i64 0,.int .i64 0,.int .i64 0,.int .i64 0,.int .i64 0] t)).alloc (.cells #[.int .i64 0,.int .i64 0,.int .i64 0,.int .i64 0] t')):=by
 have k:=(h.aq0 t).au0 t'
 rw [World.size_alloc] at k
 exact k
theorem CnX.uq0 (h:CnX w g p S D none none W) (t t' : TypeId):CnX w g p S D (some (W.heap.size+1,⟨0,0,0,0,0,0,0,0⟩,⟨0,0,0,0⟩)) (some (W.heap.size,⟨0,0,0,0,0,0,0,0⟩,⟨0,0,0,0⟩)) ((W.alloc (.cells #[.int .i64 0,.int .i64 0,.int .i64 0,.int .i64 0] t')).alloc (.cells #[.int .i64 0,.int .i64 0,.int .i64 0,.int .i64 0,.int .i64 0,.int .i64 0,.int .i64 0,.int .i64 0] t)):=by
 have k:=(h.au0 t').aq0 t
 rw [World.size_alloc] at k
 exact k
theorem CnX.k8 (h:CnX w g p S D a b W):K8 p S D W:=h.cn.sa.k8
end
/-- The source, the shard, the numbers, the handle. -/
structure CnB (w:World) (g p:Nat) (S:Sh) (D:Sx) (q u:Nat) (N:Nm) (H:Hn) (W:World):Prop where
 cn:CnAt w g p S D W
 nb:Nb W q N
 hb:Hb W u H
 pq:p<q
 pu:p<u
theorem cnb_1 {w W:World} {g p:Nat} {S:Sh} {D:Sx} (h:CnX w g p S D none none W) (N:Nm) (H:Hn) (t t' : TypeId):CnB w g p S D W.heap.size (W.heap.size+1) N H ((W.alloc (.cells #[.int .i64 N.mx,.int .i64 N.now,.int .i64 N.vis,.int .i64 N.ep,.int .i64 N.lim,.int .i64 N.k,.int .i64 N.mid,.int .i64 N.rt] t)).alloc (.cells #[.int .i64 H.id,.int .i64 H.gn,.int .i64 H.rt,.int .i64 H.ht] t')):=by
 have k:=(h.aq N t).au H.id H.gn H.rt H.ht t'
 have hq:=k.fq _ rfl
 have hu:=k.fu _ rfl
 simp only [World.size_alloc] at hu
 exact ⟨k.cn,hq.1,hu.1,hq.2.1,hu.2.1⟩
theorem cnb_2 {w W:World} {g p:Nat} {S:Sh} {D:Sx} (h:CnX w g p S D none none W) (N:Nm) (H:Hn) (t t' : TypeId):CnB w g p S D (W.heap.size+1) W.heap.size N H ((W.alloc (.cells #[.int .i64 H.id,.int .i64 H.gn,.int .i64 H.rt,.int .i64 H.ht] t')).alloc (.cells #[.int .i64 N.mx,.int .i64 N.now,.int .i64 N.vis,.int .i64 N.ep,.int .i64 N.lim,.int .i64 N.k,.int .i64 N.mid,.int .i64 N.rt] t)):=by
 have k:=(h.au H.id H.gn H.rt H.ht t').aq N t
 have hq:=k.fq _ rfl
 have hu:=k.fu _ rfl
 simp only [World.size_alloc] at hq
 exact ⟨k.cn,hq.1,hu.1,hq.2.1,hu.2.1⟩
section
variable {w W W' : World} {g p q u:Nat} {S:Sh} {D:Sx} {N:Nm} {H:Hn}
theorem CnB.below (h:CnB w g p S D q u N H W) (hb:Below W.heap.size W W'):CnB w g p S D q u N H W':=⟨h.cn.below hb,h.nb.up hb,h.hb.up hb,h.pq,h.pu⟩
theorem CnB.turn (h:CnB w g p S D q u N H W) (hs:SrcAt W' w.heap.size g) (hg:W.grownBy W' (some g)):CnB w g p S D q u N H W':=
 ⟨h.cn.turn hs hg,h.nb.grown hg (fun e=>by injection e;have:=h.pq;have:=h.cn.gp;omega),h.hb.grown hg (by have:=h.pu;have:=h.cn.gp;omega),h.pq,h.pu⟩
end
theorem Nr.turn {W W' : World} {g n c:Nat} {A:Option Addr} {l:List Int} (h:Nr W W.heap.size (.slice A n c) l) (ho:OffB g n A) (hg:W.grownBy W' (some g)):Nr W' W'.heap.size (.slice A n c) l:=by
 obtain ⟨A',c',e,h1,h2,h3⟩:=h
 injection e with e1 e2 e3
 subst e1;subst e2;subst e3
 refine ⟨_,_,rfl,h1,h2,h3.1,fun hn=>?_⟩
 obtain ⟨b,o,rfl,hb,hc⟩:=h3.2 hn
 refine ⟨b,o,rfl,Nat.lt_of_lt_of_le hb hg.size,fun j x hx=>(hg.cell_far ⟨b,o+j,none⟩ hb (fun e=>?_)).trans (hc j x hx)⟩
 injection e with e
 exact ho hn _ rfl e
theorem nr_off {W:World} {y n c:Nat} {A:Option Addr} {l:List Int} {B:Nat} (h:Nr W B (.slice A n c) l) (hy:B≤y):OffB y n A:=fun hn a e=>by
 obtain ⟨A',c',e',_,_,h3⟩:=h
 injection e' with e1 e2 e3
 subst e1;subst e2
 obtain ⟨b,o,e2,hb,_⟩:=h3.2 hn
 rw [e2] at e;injection e with e;subst e
 show b≠y
 omega
/-- .. the box of the new shard, and the IDs before. -/
structure CnY (w:World) (g p:Nat) (S:Sh) (D:Sx) (q u:Nat) (N:Nm) (H:Hn) (y:Nat) (T:Sh) (E:Sx) (A:Option Addr) (c:Nat) (l:List Int) (W:World):Prop where
 b:CnB w g p S D q u N H W
 yb:SB8 W y T E
 yr:SR W W.heap.size T E
 og:SOff T E g
 op:SOff T E p
 bf:Nr W W.heap.size (.slice A l.length c) l
 bg:OffB g l.length A
 qy:q<y
 uy:u<y
 sy:SOff S D y
 by_:OffB y l.length A
section
variable {w W W' : World} {g p q u y c:Nat} {S T:Sh} {D E:Sx} {N:Nm} {H:Hn} {A:Option Addr} {l:List Int}
theorem CnY.start (h:CnB w g p S D q u N H W) (hl:Nr W W.heap.size (.slice A l.length c) l) (hg:OffB g l.length A) (t:TypeId):CnY w g p S D q u N H W.heap.size zS zX A c l (W.alloc (.cells #[.bool false,.int .i64 0,.int .i64 0,.slice none 0 0,.int .i64 0,.int .i64 0,.slice none 0 0,.slice none 0 0] t)):=by
 have hb:Below W.heap.size W (W.alloc (.cells #[.bool false,.int .i64 0,.int .i64 0,.slice none 0 0,.int .i64 0,.int .i64 0,.slice none 0 0,.slice none 0 0] t)):=(Below.refl _ _).alloc (Nat.le_refl _) _
 exact ⟨h.below hb,SB8.zero W t,SR.zero,⟨offb_none,offb_none,offb_none⟩,⟨offb_none,offb_none,offb_none⟩,hl.up hb,hg,h.nb.lt,h.hb.lt,h.cn.sa.sr.offs (Nat.le_refl _),nr_off hl (Nat.le_refl _)⟩
theorem CnY.below (h:CnY w g p S D q u N H y T E A c l W) (hb:Below W.heap.size W W'):CnY w g p S D q u N H y T E A c l W':=
 ⟨h.b.below hb,h.yb.up hb,h.yr.up hb,h.og,h.op,h.bf.up hb,h.bg,h.qy,h.uy,h.sy,h.by_⟩
theorem CnY.turn (h:CnY w g p S D q u N H y T E A c l W) (hs:SrcAt W' w.heap.size g) (hg:W.grownBy W' (some g)):CnY w g p S D q u N H y T E A c l W':=
 ⟨h.b.turn hs hg,h.yb.grown hg (fun x e=>by injection e with e;have:=h.qy;have:=h.b.pq;have:=h.b.cn.gp;omega),h.yr.turn h.og hg,h.og,h.op,h.bf.turn h.bg hg,h.bg,h.qy,h.uy,h.sy,h.by_⟩
theorem set8s_cell {W:World} {y:Nat} {S:Sh} {D:Sx} {x:Addr} (h:x.block≠y):(set8s W y S D).cell? x=W.cell? x:=set8s_far h
theorem CnY.put (h:CnY w g p S D q u N H y T E A c l W) {T' : Sh} {E' : Sx} {B:Nat} (hr:SR W W.heap.size T' E') (hn:E'.nw B) (hy:y<B):CnY w g p S D q u N H y T' E' A c l (set8s W y T' E'):=by
 have h1:=h.qy
 have h2:=h.uy
 have h3:=h.b.pq
 have h4:=h.b.cn.gp
 have hs:W.heap.size≤(set8s W y T' E').heap.size:=by rw [set8s_size];exact Nat.le_refl _
 have hf:∀ x:Addr,(set8s W y T' E').frozen? x=W.frozen? x:=fun x=>by rw [set8s_eq,World.frozen?_setCells]
 refine ⟨⟨?_,h.b.nb.keep hs (fun o=>set8s_cell (x:=⟨q,o,none⟩) (show q≠y by omega)) (fun o=>hf _),h.b.hb.keep hs (fun o=>set8s_cell (x:=⟨u,o,none⟩) (show u≠y by omega)) (fun o=>hf _),h3,h.b.pu⟩,h.yb.put T' E',?_,hn.off (by omega),hn.off (by omega),?_,h.bg,h1,h2,h.sy,h.by_⟩
 ·rw [set8s_eq];exact CnAt.sets (show p<y by omega) h.sy (T'.l8 E') 0 W h.b.cn
 ·rw [set8s_eq];exact SR.sets (hn.off hy) (T'.l8 E') 0 W hr
 ·obtain ⟨A',c',e,g1,g2,g3⟩:=h.bf
  injection e with e1 e2 e3
  subst e1;subst e3
  refine ⟨_,_,rfl,g1,g2,g3.1,fun hn=>?_⟩
  obtain ⟨b,o,rfl,hb,hc⟩:=g3.2 hn
  exact ⟨b,o,rfl,by rw [set8s_size];exact hb,fun j x hx=>(set8s_cell (x:=⟨b,o+j,none⟩) (show b≠y from h.by_ hn ⟨b,o,none⟩ rfl)).trans (hc j x hx)⟩
/-- The new shard in the place of the elder. -/
theorem CnY.next (h:CnY w g p S D q u N H y T E A c l W):CnAt w g p T E (set8s W p T E):=by
 have h4:=h.b.cn.gp
 have h5:=h.b.cn.bg
 refine ⟨?_,h.b.cn.sa.put h.yr h.op,h.og,h4⟩
 exact h.b.cn.src.sets8 (show p≠g by omega) (show w.heap.size≤p by omega) T E
end
section
variable {w W:World} {g p q u:Nat} {S:Sh} {D:Sx} {a b:Option (Nat×Nm×Hn)} {N N' N'' : Nm} {H H' H'' : Hn}
theorem Nb.put (h:Nb W q N') (N:Nm):Nb ((((((((W.setCell ⟨q,0,none⟩ (.int .i64 N.mx)).setCell ⟨q,1,none⟩ (.int .i64 N.now)).setCell ⟨q,2,none⟩ (.int .i64 N.vis)).setCell ⟨q,3,none⟩ (.int .i64 N.ep)).setCell ⟨q,4,none⟩ (.int .i64 N.lim)).setCell ⟨q,5,none⟩ (.int .i64 N.k)).setCell ⟨q,6,none⟩ (.int .i64 N.mid)).setCell ⟨q,7,none⟩ (.int .i64 N.rt)) q N:=by
 obtain ⟨⟨c0,c1,c2,c3,c4,c5,c6,c7,l⟩,_⟩:=h.all
 exact ⟨by simp [go_sem,c0],by simp [go_sem,c1],by simp [go_sem,c2],by simp [go_sem,c3],by simp [go_sem,c4],by simp [go_sem,c5],by simp [go_sem,c6],by simp [go_sem,c7],fun o=>by simp [go_sem,h.fr o],by simp [l]⟩
theorem CnX.setq (h:CnX w g p S D (some (q,N',H')) b W) (N:Nm):CnX w g p S D (some (q,N,H')) b ((((((((W.setCell ⟨q,0,none⟩ (.int .i64 N.mx)).setCell ⟨q,1,none⟩ (.int .i64 N.now)).setCell ⟨q,2,none⟩ (.int .i64 N.vis)).setCell ⟨q,3,none⟩ (.int .i64 N.ep)).setCell ⟨q,4,none⟩ (.int .i64 N.lim)).setCell ⟨q,5,none⟩ (.int .i64 N.k)).setCell ⟨q,6,none⟩ (.int .i64 N.mid)).setCell ⟨q,7,none⟩ (.int .i64 N.rt)):=by
 obtain ⟨h1,h2,h3⟩:=h.fq _ rfl
 refine ⟨CnAt.sets h2 h3 [.int .i64 N.mx,.int .i64 N.now,.int .i64 N.vis,.int .i64 N.ep,.int .i64 N.lim,.int .i64 N.k,.int .i64 N.mid,.int .i64 N.rt] 0 W h.cn,fun x e=>?_,fun x e=>?_,fun x y e e'=>?_⟩
 ·injection e with e;subst e
  exact ⟨h1.put N,h2,h3⟩
 ·have hne:=h.ne _ x rfl e
  have e1:∀ o,(⟨q,o,none⟩:Addr).block≠x.1:=fun o=>hne
  obtain ⟨k1,k2,k3⟩:=h.fu x e
  exact ⟨(((((((k1.other (e1 0) _).other (e1 1) _).other (e1 2) _).other (e1 3) _).other (e1 4) _).other (e1 5) _).other (e1 6) _).other (e1 7) _,k2,k3⟩
 ·injection e with e;subst e
  exact h.ne (q,N',H') y rfl e'
theorem CnX.setu (h:CnX w g p S D a (some (u,N',H')) W) (H:Hn):CnX w g p S D a (some (u,N',H)) ((((W.setCell ⟨u,0,none⟩ (.int .i64 H.id)).setCell ⟨u,1,none⟩ (.int .i64 H.gn)).setCell ⟨u,2,none⟩ (.int .i64 H.rt)).setCell ⟨u,3,none⟩ (.int .i64 H.ht)):=by
 obtain ⟨h1,h2,h3⟩:=h.fu _ rfl
 refine ⟨CnAt.sets h2 h3 [.int .i64 H.id,.int .i64 H.gn,.int .i64 H.rt,.int .i64 H.ht] 0 W h.cn,fun x e=>?_,fun x e=>?_,fun x y e e'=>?_⟩
 ·have hne:=h.ne x _ e rfl
  have e1:∀ o,(⟨u,o,none⟩:Addr).block≠x.1:=fun o=>hne.symm
  obtain ⟨k1,k2,k3⟩:=h.fq x e
  exact ⟨(((k1.other (e1 0) _).other (e1 1) _).other (e1 2) _).other (e1 3) _,k2,k3⟩
 ·injection e with e;subst e
  exact ⟨h1.set H.id H.gn H.rt H.ht,h2,h3⟩
 ·injection e' with e';subst e'
  exact h.ne x (u,N',H') e rfl
theorem CnX.qf (h:CnX w g p S D (some (q,N,H')) b W):Nb W q N∧p<q:=⟨(h.fq _ rfl).1,(h.fq _ rfl).2.1⟩
theorem CnX.uf (h:CnX w g p S D a (some (u,N,H)) W):Hb W u H∧p<u:=⟨(h.fu _ rfl).1,(h.fu _ rfl).2.1⟩
theorem CnX.nq (h:CnX w g p S D (some (q,N,H')) (some (u,N',H)) W):¬q=u∧¬u=q:=⟨h.ne _ _ rfl rfl,fun e=>h.ne _ _ rfl rfl e.symm⟩
theorem CnX.cnb (h:CnX w g p S D (some (q,N,H')) (some (u,N',H)) W):CnB w g p S D q u N H W:=⟨h.cn,(h.fq _ rfl).1,(h.fu _ rfl).1,(h.fq _ rfl).2.1,(h.fu _ rfl).2.1⟩
end
section
variable {w W:World} {g p q u:Nat} {S:Sh} {D:Sx} {N' N'' : Nm} {H' H'' : Hn}
theorem cnb_3 (h:CnX w g p S D (some (q,N',H')) none W) (N:Nm) (H:Hn) (t:TypeId):CnB w g p S D q W.heap.size N H (((((((((W.setCell ⟨q,0,none⟩ (.int .i64 N.mx)).setCell ⟨q,1,none⟩ (.int .i64 N.now)).setCell ⟨q,2,none⟩ (.int .i64 N.vis)).setCell ⟨q,3,none⟩ (.int .i64 N.ep)).setCell ⟨q,4,none⟩ (.int .i64 N.lim)).setCell ⟨q,5,none⟩ (.int .i64 N.k)).setCell ⟨q,6,none⟩ (.int .i64 N.mid)).setCell ⟨q,7,none⟩ (.int .i64 N.rt)).alloc (.cells #[.int .i64 H.id,.int .i64 H.gn,.int .i64 H.rt,.int .i64 H.ht] t)):=by
 have k:=(h.setq N).au H.id H.gn H.rt H.ht t
 have e:((((((((W.setCell ⟨q,0,none⟩ (.int .i64 N.mx)).setCell ⟨q,1,none⟩ (.int .i64 N.now)).setCell ⟨q,2,none⟩ (.int .i64 N.vis)).setCell ⟨q,3,none⟩ (.int .i64 N.ep)).setCell ⟨q,4,none⟩ (.int .i64 N.lim)).setCell ⟨q,5,none⟩ (.int .i64 N.k)).setCell ⟨q,6,none⟩ (.int .i64 N.mid)).setCell ⟨q,7,none⟩ (.int .i64 N.rt)).heap.size=W.heap.size:=by simp
 rw [e] at k
 exact k.cnb
theorem cnb_4 (h:CnX w g p S D (some (q,N',H')) (some (u,N'',H'')) W) (N:Nm) (H:Hn):CnB w g p S D q u N H ((((((((((((W.setCell ⟨q,0,none⟩ (.int .i64 N.mx)).setCell ⟨q,1,none⟩ (.int .i64 N.now)).setCell ⟨q,2,none⟩ (.int .i64 N.vis)).setCell ⟨q,3,none⟩ (.int .i64 N.ep)).setCell ⟨q,4,none⟩ (.int .i64 N.lim)).setCell ⟨q,5,none⟩ (.int .i64 N.k)).setCell ⟨q,6,none⟩ (.int .i64 N.mid)).setCell ⟨q,7,none⟩ (.int .i64 N.rt)).setCell ⟨u,0,none⟩ (.int .i64 H.id)).setCell ⟨u,1,none⟩ (.int .i64 H.gn)).setCell ⟨u,2,none⟩ (.int .i64 H.rt)).setCell ⟨u,3,none⟩ (.int .i64 H.ht)):=((h.setq N).setu H).cnb
theorem cnb_5 (h:CnX w g p S D none (some (u,N'',H'')) W) (N:Nm) (H:Hn) (t:TypeId):CnB w g p S D W.heap.size u N H (((((W.setCell ⟨u,0,none⟩ (.int .i64 H.id)).setCell ⟨u,1,none⟩ (.int .i64 H.gn)).setCell ⟨u,2,none⟩ (.int .i64 H.rt)).setCell ⟨u,3,none⟩ (.int .i64 H.ht)).alloc (.cells #[.int .i64 N.mx,.int .i64 N.now,.int .i64 N.vis,.int .i64 N.ep,.int .i64 N.lim,.int .i64 N.k,.int .i64 N.mid,.int .i64 N.rt] t)):=by
 have k:=(h.setu H).aq N t
 have e:((((W.setCell ⟨u,0,none⟩ (.int .i64 H.id)).setCell ⟨u,1,none⟩ (.int .i64 H.gn)).setCell ⟨u,2,none⟩ (.int .i64 H.rt)).setCell ⟨u,3,none⟩ (.int .i64 H.ht)).heap.size=W.heap.size:=by simp
 rw [e] at k
 exact k.cnb
end
theorem cal {B:Nat} {a W:World} {o:Obj} (h:Below B a W) (h1:B≤W.heap.size):Below B a (W.alloc o):=h.alloc h1 o
theorem cst {B:Nat} {a W:World} {x:Addr} {v:Value} (h:Below B a W) (h1:B≤x.block):Below B a (W.setCell x v):=h.setCell h1 v
theorem cdr {B:Nat} {a W:World} (h:Below B a W):Below B a W.drew:=h.drew
theorem k8_below {w W W' : World} {g p:Nat} {S:Sh} {D:Sx} {a b:Option (Nat×Nm×Hn)} (h:CnX w g p S D a b W) (hb:Below (p+1) W W'):K8 p S D W':=(h.cn.sa.s8.below hb (Nat.lt_succ_self p)).k8
set_option maxHeartbeats 16000000 in
set_option maxRecDepth 20000 in
def scP:{ P:Prop // P→∀ (w:World) (a0:Option Addr) (l0 c0:Nat) (zs:List Int) (hz:Ns w w.heap.size (.slice a0 l0 c0) zs),Calls Tryz.prog 3 #[.slice a0 l0 c0] w fun e w'=>e=.returned (.bool true)∧Below w.heap.size w w' }:=⟨_,fun hP w a0 l0 c0 zs hz=>by
 have HPP:=Lh hP
 clear hP
 have HN:=Lh (new_src a0 l0 c0 zs w hz)
 have HAW:=Lh (fun W=>awake7_any W)
 clear hz
 go_enter Tryz.func3,Tryz.ntmps3
 go_wp2_with fail
 refine HN.out.mono ?_
 rintro e w1 ⟨g,rfl,hs,hb⟩
 have HW1:=Lh hb
 have HS1:=Lh hs
 have HBG:=Lh (show w.heap.size≤g from hs.1)
 have HG1:=Lh hs.2.1
 clear hb hs HN
 go_wp2_with fail
 refine (shard_any w.heap.size g _ HS1.out).mono ?_
 rintro e w2 ⟨S,D,rfl,hS,hn,hr,hs,hg⟩
 have HSR:=Lh hS
 have H3:=Lh (show CnAt w g w2.heap.size S D (w2.alloc (.cells #[.bool S.lv,.int .i64 S.lo,.int .i64 S.hi,.slice D.A S.cs.length D.c,.int .i64 S.hd,.int .i64 S.sz,.slice D.A2 S.l.length D.c2,.slice D.A3 S.h.length D.c3] 33)) from
  ⟨hs.alloc _,SAt.made 33 (below_only HW1.out hg HBG.out (Nat.le_refl _)) hr,hn.off HG1.out,hs.2.1⟩)
 clear hS hn hr hs hg HS1 HW1
 go_wp2
 obtain ⟨p,hp⟩:∃ p,p=w2.heap.size:=⟨_,rfl⟩
 rw [←hp] at H3 ⊢
 clear hp
 generalize w2.alloc (.cells #[.bool S.lv,.int .i64 S.lo,.int .i64 S.hi,.slice D.A S.cs.length D.c,.int .i64 S.hd,.int .i64 S.sz,.slice D.A2 S.l.length D.c2,.slice D.A3 S.h.length D.c3] 33)=w3 at*
 go_loopw [5] (fun iv wr=>∃ (i:Nat) (S:Sh) (D:Sx),iv=.int .i64 i∧i≤16∧SrSh S∧CnAt w g p S D wr) (fun iv _=>16 - (intOf iv).toNat)
 case atStart=>exact ⟨0,S,D,rfl,by omega,HSR.out,H3.out⟩
 case round=>
  clear H3 HSR
  obtain ⟨i,S,D,rfl,hi,hS,hh⟩:=hrel
  have HS:=Lh hS
  have HH:=Lh hh
  clear hS hh
  go_upto_region 4 with (fail)
  go_cut [28] (fun s28 wx=>∃ b:Bool,s28=.bool b∧(b=true→i<16)∧Hid (CnAt w g p S D wx))
  case first=>
   by_cases h30:i<16
   ·have h30' : (i:Int)<16:=by omega
    by_cases h4:i<3
    ·have h4' : (i:Int)<3:=by omega
     go_wp2_with fail
     go_meet
     exact ⟨true,rfl,fun _=>h30,HH⟩
    ·have h4' : ¬(i:Int)<3:=by omega
     go_wp2_with fail
     refine (more_any w.heap.size g _ HH.out.src).mono ?_
     rintro e w5 ⟨b,rfl,hs,hg⟩
     have H5:=Lh (HH.out.turn hs hg)
     clear hs hg
     go_wp2_with fail
     go_meet
     exact ⟨b,rfl,fun _=>h30,H5⟩
   ·have h30' : ¬(i:Int)<16:=by omega
    go_wp2_with fail
    go_meet
    exact ⟨false,rfl,(fun h=>by cases h),HH⟩
  case rest=>
   clear HH
   obtain ⟨b,rfl,hb30,HH⟩:=hcut
   cases b with
   | false=>
    clear hb30
    go_wp2_with fail
    refine (HAW.out _).mono ?_
    rintro e w7 ⟨rfl,hb⟩
    have HF:=Lh (HH.out.below hb)
    clear hb
    go_wp2
    go_ret
    exact ⟨rfl,HF.out.sa.bel⟩
   | true=>
    have h30:=hb30 rfl
    clear hb30
    generalize wc=w4 at*
    go_upto_region 6 with (fail)
    have HP0:=Lh (show CnX w g p S D none none w4 from CnX.start HH.out)
    have HP:=Lh (show CnX w g p S D none none w4.drew from HP0.out.drew)
    have HSO:=Lh (fun W (a b:Option (Nat×Nm×Hn)) (h:CnX w g p S D a b W)=>some_any w.heap.size g W h.cn.src)
    have HHO:=Lh (fun W (a b:Option (Nat×Nm×Hn)) (h:CnX w g p S D a b W)=>handle_any w.heap.size g S D W h.cn.src h.cn.sa.sr h.cn.off (sr_len HS.out))
    obtain ⟨t0,t1,t2,t3,t4,t5,t6,t7,tl⟩:=HH.out.sa.s8.facts
    go_cut [6,7] (fun s6 s7 wx=>∃ (q u:Nat) (N:Nm) (H:Hn),s6=.pointer (some ⟨q,0,none⟩)∧s7=.pointer (some ⟨u,0,none⟩)∧Hid (CnB w g p S D q u N H wx))
    case first=>
     rename_i y1 y2 y3 y4 y5 y6 y7 y8 y9 y10 y11 y12 y13 y14 y15 y16 y17 y18 y19 y20 y21 y22 y23 y24 y25 y26 y27 y28 y29 y30 y31 y32 y33 y34 y35 y36 y37 y38 y39 y40 y41 y42 y43 y44 y45 y46 y47 y48 y49 y50 y51 y52 y53 y54 y55 y56 y57 y58 y59 y60 y61 y62 y63 y64 y65 y66 y67 y68 y69 y70 y71 y72 y73 y74 y75 y76 y77 y78 y79 y80 y81 y82 y83 y84 y85 y86 y87 y88 y89 y90 y91 y92 y93 y94 y95 y96 y97 y98 y99 y100 y101 y102 y103 y104 y105 y106 y107 y108 y109 y110 y111 y112 y113 y114 y115 y116 y117 y118 y119 y120 y121 y122 y123 y124 y125 y126 y127 y128 y129 y130 y131 y132 y133 y134 y135 y136 y137 y138 y139 y140 y141 y142 y143 y144 y145 y146 y147 y148 y149 y150
     clear y5 y144 y146 HAW HBG HG1 HH HS hi h30
     revert w a0 l0 c0 zs y1 w1 g w2 y2 y3 y4 p w3 wr u2 u6 u7 u8 u9 u10 u11 u12 u13 u14 y6 y7 y8 y9 y10 y11 y12 y13 y14 u28 y15 y16 y17 y18 y19 y20 y21 y22 y23 y24 u39 y25 y26 y27 y28 y29 y30 y31 y32 y33 y34 u50 y35 y36 y37 y38 y39 y40 y41 y42 y43 y44 y45 y46 y47 y48 y49 y50 y51 u68 y52 y53 y54 y55 y56 y57 y58 y59 y60 y61 y62 y63 y64 u82 y65 y66 y67 y68 y69 y70 y71 y72 y73 y74 y75 y76 y77 u96 y78 y79 y80 y81 y82 y83 y84 y85 y86 y87 y88 y89 y90 y91 y92 y93 y94 y95 y96 y97 y98 y99 y100 y101 y102 y103 y104 y105 y106 y107 y108 y109 y110 y111 y112 y113 y114 y115 y116 y117 y118 y119 y120 y121 y122 y123 y124 y125 y126 y127 y128 y129 y130 y131 y132 y133 y134 y135 y136 y137 y138 y139 y140 y141 i S D y142 wc u19 u20 u21 u22 u23 u24 u25 u26 u27 u29 u30 u31 u32 u33 u34 u35 u36 u37 u38 u40 u41 u42 u43 u44 u45 u46 u47 u48 u49 u51 u52 u53 u54 u55 u56 u57 u58 u59 u60 u61 u62 u63 u64 u65 u66 u67 u69 u70 u71 u72 u73 u74 u75 u76 u77 u78 u79 u80 u81 u83 u84 u85 u86 u87 u88 u89 u90 u91 u92 u93 u94 u95 u97 u98 u99 u100 u101 u102 u103 u104 u105 u106 u107 u108 u109 u110 u111 u112 u113 u114 u115 u116 u117 u118 u119 u120 u121 u122 u123 u124 u125 u126 u127 u128 u129 u130 u131 u132 u133 u134 u135 u136 u137 u138 u139 u140 u141 u142 u143 u144 u145 u146 u147 u148 u149 u150 u151 u152 u153 u154 u155 u156 u157 u158 u159 u160 w4 y143 y145 HP0 HP HSO HHO t0 t1 t2 t3 t4 t5 t6 t7 tl y147 y148 y149 y150
     exact HPP.out
    case rest=>
     clear HPP
     clear HP0 HP HSO HHO t0 t1 t2 t3 t4 t5 t6 t7 tl HH
     obtain ⟨q,u,N,H,rfl,rfl,H5⟩:=hcut
     generalize wc=w6 at*
     have HID:=Lh (fun W (S:Sh) (D:Sx) (h:SR W W.heap.size S D) (h1:S.l.length≤1000)=>ids_any S D W h (Nat.le_trans (lsF_le _ _ _) (by decide)) h1)
     obtain ⟨t0,t1,t2,t3,t4,t5,t6,t7,tl⟩:=H5.out.cn.sa.s8.facts
     go_wp2_with fail
     clear t0 t1 t2 t3 t4 t5 t6 t7 tl
     refine (HID.out _ _ _ H5.out.cn.sa.sr (sr_len HS.out)).mono ?_
     rintro e w7 ⟨Ab,cb,rfl,hl,hb,hnw⟩
     have H6:=Lh (CnY.start (H5.out.below hb) hl (offb_nw hnw H5.out.cn.src.2.1) 33)
     clear hl hb hnw H5
     go_wp2_with fail
     obtain ⟨y,hy⟩:∃ y,y=w7.heap.size:=⟨_,rfl⟩
     rw [←hy] at H6 ⊢
     clear hy
     generalize w7.alloc (.cells #[.bool false,.int .i64 0,.int .i64 0,.slice none 0 0,.int .i64 0,.int .i64 0,.slice none 0 0,.slice none 0 0] 33)=w70 at*
     refine (n_any w.heap.size g _ H6.out.b.cn.src 5 (by omega) (by omega)).mono ?_
     rintro e w8 ⟨z,rfl,z1,z2,hs,hg⟩
     have H8:=Lh (H6.out.turn hs hg)
     have HYW:=Lh (show y<w8.heap.size from H8.out.yb.lt)
     clear hs hg H6
     go_upto_block 2 with (fail)
     go_cut [10,11] (fun s10 s11 wx=>∃ (T:Sh) (E:Sx) (x gn:Int),s10=.int .i64 x∧s11=.int .i64 gn∧Hid (CnY w g p S D q u N H y T E Ab cb (idsF S.al) wx)∧Hid (CsQ S T x gn H.id))
     case first=>
      obtain ⟨t0,t1,t2,t3,t4,t5,t6,t7,tl⟩:=H8.out.b.cn.sa.s8.facts
      obtain ⟨⟨n0,n1,n2,n3,n4,n5,n6,n7,nl⟩,-⟩:=H8.out.b.nb.all
      obtain ⟨⟨h0,h1,h2,h3,hl⟩,-⟩:=H8.out.b.hb.all
      rcases (by omega:z=0∨z=1∨z=2∨z=3∨z=4) with rfl | rfl | rfl | rfl | rfl
      ·go_wp2_with fail
       refine (st_take HS.out (w:=w8) N.mx N.now N.vis N.ep N.lim H.id H8.out.b.cn.sa.sr).mono ?_
       rintro e w9 ⟨T,E,A9,n9,c9,x,rfl,hn,hr,hb,hq⟩
       have HC:=Lh ((H8.out.below hb).put hr hn HYW.out)
       have HQ:=Lh hq
       clear n0 n1 n2 n3 n4 n5 n6 n7 nl h0 h1 h2 h3 hl t0 t1 t2 t3 t4 t5 t6 t7 tl
       obtain ⟨⟨y0,y1,y2,y3,y4,y5,y6,y7,yl⟩,f0,f1,f2,f3,f4,f5,f6,f7⟩:=(H8.out.below hb).yb.all
       clear hn hr hb hq
       go_wp2_with fail
       go_meet
       exact ⟨T,E,x,_,rfl,rfl,HC,HQ⟩
      ·go_wp2_with fail
       refine (st_nack HS.out (w:=w8) H N.now N.ep N.lim H.id H8.out.b.cn.sa.sr).mono ?_
       rintro e w9 ⟨T,E,x,rfl,hn,hr,hb,hq⟩
       have HC:=Lh ((H8.out.below hb).put hr hn HYW.out)
       have HQ:=Lh hq
       clear n0 n1 n2 n3 n4 n5 n6 n7 nl h0 h1 h2 h3 hl t0 t1 t2 t3 t4 t5 t6 t7 tl
       obtain ⟨⟨y0,y1,y2,y3,y4,y5,y6,y7,yl⟩,f0,f1,f2,f3,f4,f5,f6,f7⟩:=(H8.out.below hb).yb.all
       clear hn hr hb hq
       go_wp2_with fail
       go_meet
       exact ⟨T,E,x,_,rfl,rfl,HC,HQ⟩
      ·go_wp2_with fail
       refine (st_chg HS.out (w:=w8) H N.now N.ep N.vis H.id H8.out.b.cn.sa.sr).mono ?_
       rintro e w9 ⟨T,E,x,rfl,hn,hr,hb,hq⟩
       have HC:=Lh ((H8.out.below hb).put hr hn HYW.out)
       have HQ:=Lh hq
       clear n0 n1 n2 n3 n4 n5 n6 n7 nl h0 h1 h2 h3 hl t0 t1 t2 t3 t4 t5 t6 t7 tl
       obtain ⟨⟨y0,y1,y2,y3,y4,y5,y6,y7,yl⟩,f0,f1,f2,f3,f4,f5,f6,f7⟩:=(H8.out.below hb).yb.all
       clear hn hr hb hq
       go_wp2_with fail
       go_meet
       exact ⟨T,E,x,_,rfl,rfl,HC,HQ⟩
      ·go_wp2_with fail
       refine (st_exp HS.out (w:=w8) N.now N.ep N.lim H.id H8.out.b.cn.sa.sr).mono ?_
       rintro e w9 ⟨T,E,A9,n9,c9,x,rfl,hn,hr,hb,hq⟩
       have HC:=Lh ((H8.out.below hb).put hr hn HYW.out)
       have HQ:=Lh hq
       clear n0 n1 n2 n3 n4 n5 n6 n7 nl h0 h1 h2 h3 hl t0 t1 t2 t3 t4 t5 t6 t7 tl
       obtain ⟨⟨y0,y1,y2,y3,y4,y5,y6,y7,yl⟩,f0,f1,f2,f3,f4,f5,f6,f7⟩:=(H8.out.below hb).yb.all
       clear hn hr hb hq
       go_wp2_with fail
       go_meet
       exact ⟨T,E,x,_,rfl,rfl,HC,HQ⟩
      ·go_wp2_with fail
       refine (st_ack HS.out (w:=w8) H N.now N.ep H8.out.b.cn.sa.sr).mono ?_
       rintro e w9 ⟨T,E,x,rfl,hn,hr,hb,hq⟩
       have HC:=Lh ((H8.out.below hb).put hr hn HYW.out)
       have HQ:=Lh hq
       clear n0 n1 n2 n3 n4 n5 n6 n7 nl h0 h1 h2 h3 hl t0 t1 t2 t3 t4 t5 t6 t7 tl
       obtain ⟨⟨y0,y1,y2,y3,y4,y5,y6,y7,yl⟩,f0,f1,f2,f3,f4,f5,f6,f7⟩:=(H8.out.below hb).yb.all
       clear hn hr hb hq
       go_wp2_with fail
       go_meet
       exact ⟨T,E,x,_,rfl,rfl,HC,HQ⟩
     case rest=>
      clear H8 HYW z1 z2
      obtain ⟨T,E,x,gn,rfl,rfl,HY,HQ⟩:=hcut
      generalize wc=w9 at*
      by_cases hx:x=0
      ·have hne:(x != 0)=false:=by simp [hx]
       obtain ⟨q1,q2,q3⟩:=HQ.out hx
       have HST:=Lh q2
       have HVT:=Lh q1
       have HCR:=Lh q3
       clear q1 q2 q3 HQ hx
       obtain ⟨⟨y0,y1,y2,y3,y4,y5,y6,y7,yl⟩,-⟩:=HY.out.yb.all
       go_wp2_with fail
       clear y0 y1 y2 y3 y4 y5 y6 y7 yl
       refine (HID.out _ _ _ HY.out.yr (sr_len HST.out)).mono ?_
       rintro e w10 ⟨Aa,ca,rfl,hl,hb,-⟩
       have HY10:=Lh (HY.out.below hb)
       have HAF:=Lh hl
       clear hl hb HY
       obtain ⟨⟨y0,y1,y2,y3,y4,y5,y6,y7,yl⟩,-⟩:=HY10.out.yb.all
       go_wp2_with fail
       clear y0 y1 y2 y3 y4 y5 y6 y7 yl
       refine (rvalid7_any T E _ HY10.out.yr).mono ?_
       rintro e w11 ⟨rfl,hb⟩
       rw [HVT.out]
       have HY11:=Lh (HY10.out.below hb)
       have HAG:=Lh (HAF.out.up hb)
       have HLB:=Lh (show (idsF S.al).length≤3000 by rw [idsF_len];unfold Sh.al;rw [List.length_append,List.length_map];have h1:=lsF_le S.cs S.hd S.sz;have h2:=sr_len HS.out;omega)
       have HLA:=Lh (show (idsF T.al).length≤3000 by rw [idsF_len];unfold Sh.al;rw [List.length_append,List.length_map];have h1:=lsF_le T.cs T.hd T.sz;have h2:=sr_len HST.out;omega)
       clear hb HY10 HAF
       generalize idsF S.al=Bf at*
       generalize idsF T.al=Af at*
       have hwl:IntKind.i64.wrap ((Bf.length:Int) - gn)=(Af.length:Int):=by rw [IntWalk.i64_in _ (by have h1:=HCR.out.2.1;have h2:=HLB.out;omega)];exact HCR.out.1.symm
       have hnl:((Af.length:Int) != (Af.length:Int))=false:=by simp
       obtain ⟨kk,hk0,hkk⟩:=HCR.out.2.2
       have HKK:=Lh hkk
       have HGN:=Lh HCR.out.2.1
       have hb63:Bf.length≤9223372036854775807:=by have:=HLB.out;omega
       clear hkk HCR
       go_wp2
       have ha63:Af.length≤9223372036854775807:=by have:=HLA.out;omega
       clear HLA HLB
       go_loopw [13,14] (fun kv jv ws=>∃ j:Nat,j≤Bf.length∧jv=.int .i64 j∧kv=.int .i64 (kk j:Nat)∧Hid (CnY w g p S D q u N H y T E Ab cb Bf ws)∧Hid (Nr ws ws.heap.size (.slice Aa Af.length ca) Af)) (fun _ jv _=>Bf.length - (intOf jv).toNat)
       case atStart=>exact ⟨0,Nat.zero_le _,rfl,by rw [hk0];rfl,HY11,HAG⟩
       case round=>
        clear HY11 HAG
        obtain ⟨j,hj,rfl,rfl,HY,HA⟩:=hrel
        by_cases hlt:j<Bf.length
        ·obtain ⟨b,o,rfl,hbl,c0⟩:=HY.out.bf.at_ hlt
         have HKJ:=Lh (HKK.out j hlt)
         rcases HKJ.out with ⟨h,e,k1⟩ | ⟨hn,hg1,hid,k1⟩
         ·obtain ⟨b',o',rfl,hbl',d0⟩:=HA.out.at_ h
          rw [e] at d0
          have HK1:=Lh k1
          clear k1 e HKJ hwl hnl
          generalize Bf[j]=V at*
          generalize kk j=κ at*
          have hd:decide (κ<Af.length)=true:=decide_eq_true h
          have hvv:(V==V)=true:=by simp
          go_wp2
          go_quiet (fail)
          go_wp2
          go_roundw
          case rel=>exact ⟨j+1,by omega,by go_num,by rw [HK1.out];go_num,Lh (HY.out.below (below_dn _ _)),Lh (HA.out.up (below_dn _ _))⟩
          case measure=>simp [intOf];omega
         ·have HK1:=Lh k1
          have hg0:(gn==0)=false:=by rw [hg1];rfl
          obtain ⟨⟨h0,h1,h2,h3,hl⟩,-⟩:=HY.out.b.hb.all
          have hni:(H.id != H.id)=false:=by simp
          rw [hid] at c0
          by_cases hk:kk j<Af.length
          ·obtain ⟨b',o',rfl,hbl',d0⟩:=HA.out.at_ hk
           have hne2:=hn hk
           rw [hid] at hne2
           clear k1 hn hid HKJ hwl hnl hg1
           generalize Af[kk j]=U at*
           generalize kk j=κ at*
           have hd:decide (κ<Af.length)=true:=decide_eq_true hk
           have huv:(U==H.id)=false:=by simpa using hne2
           clear hne2
           go_wp2
           go_quiet (fail)
           go_wp2
           go_quiet (fail)
           go_wp2
           go_roundw
           case rel=>exact ⟨j+1,by omega,by go_num,by rw [HK1.out],Lh (HY.out.below (below_dn _ _)),Lh (HA.out.up (below_dn _ _))⟩
           case measure=>simp [intOf];omega
          ·clear k1 hn hid HKJ hwl hnl hg1
           generalize kk j=κ at*
           have hd:decide (κ<Af.length)=false:=decide_eq_false hk
           go_wp2
           go_quiet (fail)
           go_wp2
           go_quiet (fail)
           go_wp2
           go_roundw
           case rel=>exact ⟨j+1,by omega,by go_num,by rw [HK1.out],Lh (HY.out.below (below_dn _ _)),Lh (HA.out.up (below_dn _ _))⟩
           case measure=>simp [intOf];omega
        ·have HX:=Lh HY.out.next
         obtain ⟨⟨y0,y1,y2,y3,y4,y5,y6,y7,yl⟩,-⟩:=HY.out.yb.all
         obtain ⟨⟨t0,t1,t2,t3,t4,t5,t6,t7,tl⟩,f0,f1,f2,f3,f4,f5,f6,f7⟩:=HY.out.b.cn.sa.s8.all
         go_wp2
         go_roundw
         case rel=>exact ⟨i+1,T,E,by go_num,by omega,HST.out,HX.out⟩
         case measure=>simp [intOf];omega
      ·have hne:(x != 0)=true:=by simp [hx]
       clear HQ
       go_wp2
       go_roundw
       case rel=>exact ⟨i+1,S,D,by go_num,by omega,HS.out,HY.out.b.cn⟩
       case measure=>simp [intOf];omega⟩
end Go.Proofs.YtncgbldcjfbknaaGreat
