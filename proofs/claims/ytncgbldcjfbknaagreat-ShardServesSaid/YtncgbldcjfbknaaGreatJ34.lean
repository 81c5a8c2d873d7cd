/- What is proved here: the law's some returns some numbers; Handle of the statements' base returns some handle; '==' and '!=' of a lease and itself; (plain) nothing old is turned by draws; shardqueueref05.Same of two lists that read alike are true. -/
import Derived.Test.YtncgbldcjfbknaaGreatJ33
namespace Go.Proofs.YtncgbldcjfbknaaGreat
open Go.RowKit
set_option linter.unusedVariables false
structure Nm where
 mx:Int
 now:Int
 vis:Int
 ep:Int
 lim:Int
 k:Int
 mid:Int
 rt:Int
abbrev Nm.v (N:Nm):Value:=.agg #[.int .i64 N.mx,.int .i64 N.now,.int .i64 N.vis,.int .i64 N.ep,.int .i64 N.lim,.int .i64 N.k,.int .i64 N.mid,.int .i64 N.rt]
structure Nb (W:World) (p:Nat) (N:Nm):Prop where
 c0:W.cell? ⟨p,0,none⟩=some (.int .i64 N.mx)
 c1:W.cell? ⟨p,1,none⟩=some (.int .i64 N.now)
 c2:W.cell? ⟨p,2,none⟩=some (.int .i64 N.vis)
 c3:W.cell? ⟨p,3,none⟩=some (.int .i64 N.ep)
 c4:W.cell? ⟨p,4,none⟩=some (.int .i64 N.lim)
 c5:W.cell? ⟨p,5,none⟩=some (.int .i64 N.k)
 c6:W.cell? ⟨p,6,none⟩=some (.int .i64 N.mid)
 c7:W.cell? ⟨p,7,none⟩=some (.int .i64 N.rt)
 fr:∀ o,W.frozen? ⟨p,o,none⟩=false
 lt:p<W.heap.size
section
variable {w W W' : World} {p g:Nat} {N:Nm}
theorem Nb.start (w:World) (N:Nm) (t:TypeId):Nb (w.alloc (.cells #[.int .i64 N.mx,.int .i64 N.now,.int .i64 N.vis,.int .i64 N.ep,.int .i64 N.lim,.int .i64 N.k,.int .i64 N.mid,.int .i64 N.rt] t)) w.heap.size N:=
 ⟨by simp [go_sem],by simp [go_sem],by simp [go_sem],by simp [go_sem],by simp [go_sem],by simp [go_sem],by simp [go_sem],by simp [go_sem],fun o=>by simp [go_sem],by simp⟩
theorem Nb.keep (h:Nb W p N) (hs:W.heap.size≤W'.heap.size) (hc:∀ o,W'.cell? ⟨p,o,none⟩=W.cell? ⟨p,o,none⟩) (hf:∀ o,W'.frozen? ⟨p,o,none⟩=W.frozen? ⟨p,o,none⟩):Nb W' p N:=
 ⟨(hc 0).trans h.c0,(hc 1).trans h.c1,(hc 2).trans h.c2,(hc 3).trans h.c3,(hc 4).trans h.c4,(hc 5).trans h.c5,(hc 6).trans h.c6,(hc 7).trans h.c7,fun o=>(hf o).trans (h.fr o),Nat.lt_of_lt_of_le h.lt hs⟩
theorem Nb.up (h:Nb W p N) (hb:Below W.heap.size W W'):Nb W' p N:=h.keep hb.size (fun o=>hb.cell (p:=⟨p,o,none⟩) h.lt) (fun o=>hb.frozen (p:=⟨p,o,none⟩) h.lt)
theorem Nb.alloc (h:Nb W p N) (o:Obj):Nb (W.alloc o) p N:=h.up ((Below.refl _ _).alloc (Nat.le_refl _) o)
theorem Nb.grown (h:Nb W p N) {row:Option Nat} (hg:W.grownBy W' row) (hne:some p≠row):Nb W' p N:=h.keep hg.size (fun o=>hg.cell_far ⟨p,o,none⟩ h.lt hne) (fun o=>hg.frozen_far ⟨p,o,none⟩ h.lt hne)
theorem Nb.other (h:Nb W p N) {a:Addr} (hne:a.block≠p) (v:Value):Nb (W.setCell a v) p N:=
 h.keep (by simp) (fun o=>World.cell?_setCell_other W a ⟨p,o,none⟩ v (fun e=>hne (by rw [e]))) (fun o=>by simp [go_sem])
theorem Nb.all (h:Nb W p N):(W.cell? ⟨p,0,none⟩=some (.int .i64 N.mx)∧W.cell? ⟨p,1,none⟩=some (.int .i64 N.now)∧W.cell? ⟨p,2,none⟩=some (.int .i64 N.vis)∧W.cell? ⟨p,3,none⟩=some (.int .i64 N.ep)∧W.cell? ⟨p,4,none⟩=some (.int .i64 N.lim)∧W.cell? ⟨p,5,none⟩=some (.int .i64 N.k)∧W.cell? ⟨p,6,none⟩=some (.int .i64 N.mid)∧W.cell? ⟨p,7,none⟩=some (.int .i64 N.rt)∧p<W.heap.size)∧
  (W.frozen? ⟨p,0,none⟩=false∧W.frozen? ⟨p,1,none⟩=false∧W.frozen? ⟨p,2,none⟩=false∧W.frozen? ⟨p,3,none⟩=false∧W.frozen? ⟨p,4,none⟩=false∧W.frozen? ⟨p,5,none⟩=false∧W.frozen? ⟨p,6,none⟩=false∧W.frozen? ⟨p,7,none⟩=false):=
 ⟨⟨h.c0,h.c1,h.c2,h.c3,h.c4,h.c5,h.c6,h.c7,h.lt⟩,h.fr 0,h.fr 1,h.fr 2,h.fr 3,h.fr 4,h.fr 5,h.fr 6,h.fr 7⟩
theorem Nb.set0 (h:Nb W p N) (x:Int):Nb (W.setCell ⟨p,0,none⟩ (.int .i64 x)) p { N with mx:=x }:=by
 obtain ⟨⟨c0,c1,c2,c3,c4,c5,c6,c7,l⟩,_⟩:=h.all
 exact ⟨by simp [go_sem,c0],by simp [go_sem,c1],by simp [go_sem,c2],by simp [go_sem,c3],by simp [go_sem,c4],by simp [go_sem,c5],by simp [go_sem,c6],by simp [go_sem,c7],fun o=>by simp [go_sem,h.fr o],by simp [l]⟩
theorem Nb.set1 (h:Nb W p N) (x:Int):Nb (W.setCell ⟨p,1,none⟩ (.int .i64 x)) p { N with now:=x }:=by
 obtain ⟨⟨c0,c1,c2,c3,c4,c5,c6,c7,l⟩,_⟩:=h.all
 exact ⟨by simp [go_sem,c0],by simp [go_sem,c1],by simp [go_sem,c2],by simp [go_sem,c3],by simp [go_sem,c4],by simp [go_sem,c5],by simp [go_sem,c6],by simp [go_sem,c7],fun o=>by simp [go_sem,h.fr o],by simp [l]⟩
theorem Nb.set2 (h:Nb W p N) (x:Int):Nb (W.setCell ⟨p,2,none⟩ (.int .i64 x)) p { N with vis:=x }:=by
 obtain ⟨⟨c0,c1,c2,c3,c4,c5,c6,c7,l⟩,_⟩:=h.all
 exact ⟨by simp [go_sem,c0],by simp [go_sem,c1],by simp [go_sem,c2],by simp [go_sem,c3],by simp [go_sem,c4],by simp [go_sem,c5],by simp [go_sem,c6],by simp [go_sem,c7],fun o=>by simp [go_sem,h.fr o],by simp [l]⟩
theorem Nb.set3 (h:Nb W p N) (x:Int):Nb (W.setCell ⟨p,3,none⟩ (.int .i64 x)) p { N with ep:=x }:=by
 obtain ⟨⟨c0,c1,c2,c3,c4,c5,c6,c7,l⟩,_⟩:=h.all
 exact ⟨by simp [go_sem,c0],by simp [go_sem,c1],by simp [go_sem,c2],by simp [go_sem,c3],by simp [go_sem,c4],by simp [go_sem,c5],by simp [go_sem,c6],by simp [go_sem,c7],fun o=>by simp [go_sem,h.fr o],by simp [l]⟩
theorem Nb.set4 (h:Nb W p N) (x:Int):Nb (W.setCell ⟨p,4,none⟩ (.int .i64 x)) p { N with lim:=x }:=by
 obtain ⟨⟨c0,c1,c2,c3,c4,c5,c6,c7,l⟩,_⟩:=h.all
 exact ⟨by simp [go_sem,c0],by simp [go_sem,c1],by simp [go_sem,c2],by simp [go_sem,c3],by simp [go_sem,c4],by simp [go_sem,c5],by simp [go_sem,c6],by simp [go_sem,c7],fun o=>by simp [go_sem,h.fr o],by simp [l]⟩
theorem Nb.set5 (h:Nb W p N) (x:Int):Nb (W.setCell ⟨p,5,none⟩ (.int .i64 x)) p { N with k:=x }:=by
 obtain ⟨⟨c0,c1,c2,c3,c4,c5,c6,c7,l⟩,_⟩:=h.all
 exact ⟨by simp [go_sem,c0],by simp [go_sem,c1],by simp [go_sem,c2],by simp [go_sem,c3],by simp [go_sem,c4],by simp [go_sem,c5],by simp [go_sem,c6],by simp [go_sem,c7],fun o=>by simp [go_sem,h.fr o],by simp [l]⟩
end
def SrNum (B g:Nat) (w:World) (e:Ending) (w' : World):Prop:=∃ N:Nm,e=.returned N.v∧SrcAt w' B g∧w.grownBy w' (some g)
structure So0 (w:World) (B g r:Nat) (W:World):Prop where
 src:SrcAt W B g
 rs:Nb W r ⟨0,0,0,0,0,0,0,0⟩
 grow:w.grownBy W (some g)
 old:g<w.heap.size∧w.heap.size≤r∧B≤g
structure So1 (w:World) (B g r k:Nat) (N:Nm) (W:World):Prop where
 s0:So0 w B g r W
 nb:Nb W k N
 ne:r<k
section
variable {w W W' : World} {B g r k:Nat} {N:Nm}
theorem So0.turn (h:So0 w B g r W) (hs:SrcAt W' B g) (hg:W.grownBy W' (some g)):So0 w B g r W':=⟨hs,h.rs.grown hg (fun e=>by injection e;have:=h.old;omega),h.grow.trans hg,h.old⟩
theorem So0.alloc (h:So0 w B g r W) (o:Obj):So0 w B g r (W.alloc o):=⟨h.src.alloc o,h.rs.alloc o,only_alloc h.grow o,h.old⟩
theorem So1.turn (h:So1 w B g r k N W) (hs:SrcAt W' B g) (hg:W.grownBy W' (some g)):So1 w B g r k N W':=⟨h.s0.turn hs hg,h.nb.grown hg (fun e=>by injection e;have:=h.s0.old;have:=h.ne;omega),h.ne⟩
theorem So1.alloc (h:So1 w B g r k N W) (o:Obj):So1 w B g r k N (W.alloc o):=⟨h.s0.alloc o,h.nb.alloc o,h.ne⟩
theorem So0.other (h:So0 w B g r W) {a:Addr} (h1:a.block≠r) (h2:w.heap.size≤a.block) (v:Value):So0 w B g r (W.setCell a v):=by
 have ho:=h.old
 exact ⟨h.src.other (p:=a) (by omega) (by omega) v,h.rs.other h1 v,only_set h.grow (p:=a) (.inr h2) v,h.old⟩
theorem So0.pick (h:So0 w B g r W) (zs:List Int) (h1:1≤zs.length) (h2:zs.length≤1000):Calls Tryz.prog 25 #[.pointer (some ⟨g,0,none⟩),.slice (some ⟨W.heap.size,0,none⟩) zs.length zs.length] (W.alloc (.cells (zs.map i64v).toArray 3)) (SrPick B g zs (W.alloc (.cells (zs.map i64v).toArray 3))):=
 pick_any B g _ (h.src.alloc _) W.heap.size zs.length zs rfl (by simp) (by have:=h.src.2.1;omega) h1 h2 (row_cells W zs _)
theorem So1.set0 (h:So1 w B g r k N W) (x:Int):So1 w B g r k { N with mx:=x } (W.setCell ⟨k,0,none⟩ (.int .i64 x)):=
 ⟨h.s0.other (a:=⟨k,0,none⟩) (show k≠r by have:=h.ne;omega) (show w.heap.size≤k by have:=h.ne;have:=h.s0.old;omega) _,h.nb.set0 x,h.ne⟩
theorem So1.set1 (h:So1 w B g r k N W) (x:Int):So1 w B g r k { N with now:=x } (W.setCell ⟨k,1,none⟩ (.int .i64 x)):=
 ⟨h.s0.other (a:=⟨k,1,none⟩) (show k≠r by have:=h.ne;omega) (show w.heap.size≤k by have:=h.ne;have:=h.s0.old;omega) _,h.nb.set1 x,h.ne⟩
theorem So1.set2 (h:So1 w B g r k N W) (x:Int):So1 w B g r k { N with vis:=x } (W.setCell ⟨k,2,none⟩ (.int .i64 x)):=
 ⟨h.s0.other (a:=⟨k,2,none⟩) (show k≠r by have:=h.ne;omega) (show w.heap.size≤k by have:=h.ne;have:=h.s0.old;omega) _,h.nb.set2 x,h.ne⟩
theorem So1.set3 (h:So1 w B g r k N W) (x:Int):So1 w B g r k { N with ep:=x } (W.setCell ⟨k,3,none⟩ (.int .i64 x)):=
 ⟨h.s0.other (a:=⟨k,3,none⟩) (show k≠r by have:=h.ne;omega) (show w.heap.size≤k by have:=h.ne;have:=h.s0.old;omega) _,h.nb.set3 x,h.ne⟩
theorem So1.set4 (h:So1 w B g r k N W) (x:Int):So1 w B g r k { N with lim:=x } (W.setCell ⟨k,4,none⟩ (.int .i64 x)):=
 ⟨h.s0.other (a:=⟨k,4,none⟩) (show k≠r by have:=h.ne;omega) (show w.heap.size≤k by have:=h.ne;have:=h.s0.old;omega) _,h.nb.set4 x,h.ne⟩
theorem So1.set5 (h:So1 w B g r k N W) (x:Int):So1 w B g r k { N with k:=x } (W.setCell ⟨k,5,none⟩ (.int .i64 x)):=
 ⟨h.s0.other (a:=⟨k,5,none⟩) (show k≠r by have:=h.ne;omega) (show w.heap.size≤k by have:=h.ne;have:=h.s0.old;omega) _,h.nb.set5 x,h.ne⟩
theorem So1.out (h:So1 w B g r k N W) (x0 x1 x2 x3 x4 x5 x6 x7:Value):SrcAt ((((((((W.setCell ⟨r,0,none⟩ x0).setCell ⟨r,1,none⟩ x1).setCell ⟨r,2,none⟩ x2).setCell ⟨r,3,none⟩ x3).setCell ⟨r,4,none⟩ x4).setCell ⟨r,5,none⟩ x5).setCell ⟨r,6,none⟩ x6).setCell ⟨r,7,none⟩ x7) B g∧w.grownBy ((((((((W.setCell ⟨r,0,none⟩ x0).setCell ⟨r,1,none⟩ x1).setCell ⟨r,2,none⟩ x2).setCell ⟨r,3,none⟩ x3).setCell ⟨r,4,none⟩ x4).setCell ⟨r,5,none⟩ x5).setCell ⟨r,6,none⟩ x6).setCell ⟨r,7,none⟩ x7) (some g):=by
 have ho:=h.s0.old
 have h1:∀ o,(⟨r,o,none⟩:Addr).block≠g:=fun o=>show r≠g by omega
 have h2:∀ o,B≤(⟨r,o,none⟩:Addr).block:=fun o=>show B≤r by omega
 have h3:∀ o,(⟨r,o,none⟩:Addr).block=g∨w.heap.size≤(⟨r,o,none⟩:Addr).block:=fun o=>.inr (show w.heap.size≤r by omega)
 exact ⟨((((((((h.s0.src.other (h1 _) (h2 _) _).other (h1 _) (h2 _) _).other (h1 _) (h2 _) _).other (h1 _) (h2 _) _).other (h1 _) (h2 _) _).other (h1 _) (h2 _) _).other (h1 _) (h2 _) _).other (h1 _) (h2 _) _),only_set (only_set (only_set (only_set (only_set (only_set (only_set (only_set h.s0.grow (h3 _) _) (h3 _) _) (h3 _) _) (h3 _) _) (h3 _) _) (h3 _) _) (h3 _) _) (h3 _) _⟩
end
set_option maxHeartbeats 16000000 in
set_option maxRecDepth 20000 in
theorem some_any (B g:Nat) (w:World) (h:SrcAt w B g):Calls Tryz.prog 11 #[.pointer (some ⟨g,0,none⟩)] w (SrNum B g w):=by
 have H0:=Lh (show So0 w B g w.heap.size (w.alloc (.cells #[.int .i64 0,.int .i64 0,.int .i64 0,.int .i64 0,.int .i64 0,.int .i64 0,.int .i64 0,.int .i64 0] 37)) from ⟨h.alloc _,Nb.start w ⟨0,0,0,0,0,0,0,0⟩ _,only_alloc (World.grownBy.refl w (some g)) _,h.2.1,Nat.le_refl _,h.1⟩)
 clear h
 go_enter Tryz.func11,Tryz.ntmps11
 go_wp2_with fail
 obtain ⟨r,hr⟩:∃ r,r=w.heap.size:=⟨_,rfl⟩
 rw [←hr] at H0 ⊢
 clear hr
 generalize w.alloc (.cells #[.int .i64 0,.int .i64 0,.int .i64 0,.int .i64 0,.int .i64 0,.int .i64 0,.int .i64 0,.int .i64 0] 37)=w1 at*
 refine (range_any B g _ H0.out.src 1 4 (by omega) (by omega) (by omega)).mono ?_
 rintro e w2 ⟨x0,rfl,_,_,hs,hg⟩
 have H0:=Lh (H0.out.turn hs hg)
 clear hs hg
 go_wp2_with fail
 refine (n_any B g _ H0.out.src 32 (by omega) (by omega)).mono ?_
 rintro e w2 ⟨x1,rfl,_,_,hs,hg⟩
 have H0:=Lh (H0.out.turn hs hg)
 clear hs hg
 go_wp2_with fail
 refine ((H0.out.pick [0,1,10,1000] (by decide) (by decide))).mono ?_
 rintro e w2 ⟨x2,rfl,_,hs,hg⟩
 have H0:=Lh ((H0.out.alloc _).turn hs hg)
 clear hs hg
 go_wp2_with fail
 refine (n_any B g _ H0.out.src 3 (by omega) (by omega)).mono ?_
 rintro e w2 ⟨x3,rfl,_,_,hs,hg⟩
 have H0:=Lh (H0.out.turn hs hg)
 clear hs hg
 go_wp2_with fail
 refine (range_any B g _ H0.out.src 1 4 (by omega) (by omega) (by omega)).mono ?_
 rintro e w2 ⟨x4,rfl,_,_,hs,hg⟩
 have H0:=Lh (H0.out.turn hs hg)
 clear hs hg
 go_wp2_with fail
 refine (range_any B g _ H0.out.src 0 4 (by omega) (by omega) (by omega)).mono ?_
 rintro e w2 ⟨x5,rfl,_,_,hs,hg⟩
 have H0:=Lh (H0.out.turn hs hg)
 clear hs hg
 go_wp2_with fail
 refine ((H0.out.pick [0,100,20000,32768,40000] (by decide) (by decide))).mono ?_
 rintro e w2 ⟨x6,rfl,_,hs,hg⟩
 have H0:=Lh ((H0.out.alloc _).turn hs hg)
 clear hs hg
 go_wp2_with fail
 refine (n_any B g _ H0.out.src 65536 (by omega) (by omega)).mono ?_
 rintro e w2 ⟨x7,rfl,_,_,hs,hg⟩
 have H0:=Lh (H0.out.turn hs hg)
 clear hs hg
 have H1:=Lh (show So1 w B g r w2.heap.size ⟨x0,x1,x2,x3,x4,x5,x6,x7⟩ (w2.alloc (.cells #[.int .i64 x0,.int .i64 x1,.int .i64 x2,.int .i64 x3,.int .i64 x4,.int .i64 x5,.int .i64 x6,.int .i64 x7] 37)) from ⟨H0.out.alloc _,Nb.start w2 ⟨x0,x1,x2,x3,x4,x5,x6,x7⟩ _,H0.out.rs.lt⟩)
 go_wp2_with fail
 obtain ⟨k,hk⟩:∃ k,k=w2.heap.size:=⟨_,rfl⟩
 rw [←hk] at H1 ⊢
 clear hk H0
 generalize w2.alloc (.cells #[.int .i64 x0,.int .i64 x1,.int .i64 x2,.int .i64 x3,.int .i64 x4,.int .i64 x5,.int .i64 x6,.int .i64 x7] 37)=w3 at*
 have HNE:=Lh (show ¬r=k∧¬k=r by have:=H1.out.ne;omega)
 refine (n_any B g _ H1.out.s0.src 16 (by omega) (by omega)).mono ?_
 rintro e w4 ⟨y,rfl,_,_,hs,hg⟩
 have H1:=Lh (H1.out.turn hs hg)
 clear hs hg
 by_cases hy0:y=0
 ·subst hy0
  go_wp2_with fail
  refine (H1.out.s0.pick [0,6,7] (by decide) (by decide)).mono ?_
  rintro e w5 ⟨z,rfl,_,hs,hg⟩
  have H2:=Lh ((H1.out.alloc _).turn hs hg)
  clear hs hg
  obtain ⟨⟨a0,a1,a2,a3,a4,a5,a6,a7,al⟩,b0,b1,b2,b3,b4,b5,b6,b7⟩:=H2.out.nb.all
  obtain ⟨⟨c0,c1,c2,c3,c4,c5,c6,c7,cl⟩,d0,d1,d2,d3,d4,d5,d6,d7⟩:=H2.out.s0.rs.all
  obtain ⟨hrk,hkr⟩:=HNE.out
  go_wp2
  exact bodyPost_ret (v:=Nm.v ⟨z,x1,x2,x3,x4,x5,x6,x7⟩) (by simp only [results,Tryz.results11];go_simp <;> rfl) rfl ⟨_,rfl,(H2.out.set0 z).out _ _ _ _ _ _ _ _⟩
 by_cases hy1:y=1
 ·subst hy1
  go_wp2_with fail
  refine (H1.out.s0.pick [-1,1073741824,1073741825,1073741814] (by decide) (by decide)).mono ?_
  rintro e w5 ⟨z,rfl,_,hs,hg⟩
  have H2:=Lh ((H1.out.alloc _).turn hs hg)
  clear hs hg
  obtain ⟨⟨a0,a1,a2,a3,a4,a5,a6,a7,al⟩,b0,b1,b2,b3,b4,b5,b6,b7⟩:=H2.out.nb.all
  obtain ⟨⟨c0,c1,c2,c3,c4,c5,c6,c7,cl⟩,d0,d1,d2,d3,d4,d5,d6,d7⟩:=H2.out.s0.rs.all
  obtain ⟨hrk,hkr⟩:=HNE.out
  go_wp2
  exact bodyPost_ret (v:=Nm.v ⟨x0,z,x2,x3,x4,x5,x6,x7⟩) (by simp only [results,Tryz.results11];go_simp <;> rfl) rfl ⟨_,rfl,(H2.out.set1 z).out _ _ _ _ _ _ _ _⟩
 by_cases hy2:y=2
 ·subst hy2
  go_wp2_with fail
  refine (H1.out.s0.pick [-1,1001] (by decide) (by decide)).mono ?_
  rintro e w5 ⟨z,rfl,_,hs,hg⟩
  have H2:=Lh ((H1.out.alloc _).turn hs hg)
  clear hs hg
  obtain ⟨⟨a0,a1,a2,a3,a4,a5,a6,a7,al⟩,b0,b1,b2,b3,b4,b5,b6,b7⟩:=H2.out.nb.all
  obtain ⟨⟨c0,c1,c2,c3,c4,c5,c6,c7,cl⟩,d0,d1,d2,d3,d4,d5,d6,d7⟩:=H2.out.s0.rs.all
  obtain ⟨hrk,hkr⟩:=HNE.out
  go_wp2
  exact bodyPost_ret (v:=Nm.v ⟨x0,x1,z,x3,x4,x5,x6,x7⟩) (by simp only [results,Tryz.results11];go_simp <;> rfl) rfl ⟨_,rfl,(H2.out.set2 z).out _ _ _ _ _ _ _ _⟩
 by_cases hy3:y=3
 ·subst hy3
  go_wp2_with fail
  refine (H1.out.s0.pick [-1,65536,65537] (by decide) (by decide)).mono ?_
  rintro e w5 ⟨z,rfl,_,hs,hg⟩
  have H2:=Lh ((H1.out.alloc _).turn hs hg)
  clear hs hg
  obtain ⟨⟨a0,a1,a2,a3,a4,a5,a6,a7,al⟩,b0,b1,b2,b3,b4,b5,b6,b7⟩:=H2.out.nb.all
  obtain ⟨⟨c0,c1,c2,c3,c4,c5,c6,c7,cl⟩,d0,d1,d2,d3,d4,d5,d6,d7⟩:=H2.out.s0.rs.all
  obtain ⟨hrk,hkr⟩:=HNE.out
  go_wp2
  exact bodyPost_ret (v:=Nm.v ⟨x0,x1,x2,z,x4,x5,x6,x7⟩) (by simp only [results,Tryz.results11];go_simp <;> rfl) rfl ⟨_,rfl,(H2.out.set3 z).out _ _ _ _ _ _ _ _⟩
 by_cases hy4:y=4
 ·subst hy4
  go_wp2_with fail
  refine (H1.out.s0.pick [0,8,9] (by decide) (by decide)).mono ?_
  rintro e w5 ⟨z,rfl,_,hs,hg⟩
  have H2:=Lh ((H1.out.alloc _).turn hs hg)
  clear hs hg
  obtain ⟨⟨a0,a1,a2,a3,a4,a5,a6,a7,al⟩,b0,b1,b2,b3,b4,b5,b6,b7⟩:=H2.out.nb.all
  obtain ⟨⟨c0,c1,c2,c3,c4,c5,c6,c7,cl⟩,d0,d1,d2,d3,d4,d5,d6,d7⟩:=H2.out.s0.rs.all
  obtain ⟨hrk,hkr⟩:=HNE.out
  go_wp2
  exact bodyPost_ret (v:=Nm.v ⟨x0,x1,x2,x3,z,x5,x6,x7⟩) (by simp only [results,Tryz.results11];go_simp <;> rfl) rfl ⟨_,rfl,(H2.out.set4 z).out _ _ _ _ _ _ _ _⟩
 by_cases hy5:y=5
 ·subst hy5
  go_wp2_with fail
  refine (H1.out.s0.pick [-1,12,13] (by decide) (by decide)).mono ?_
  rintro e w5 ⟨z,rfl,_,hs,hg⟩
  have H2:=Lh ((H1.out.alloc _).turn hs hg)
  clear hs hg
  obtain ⟨⟨a0,a1,a2,a3,a4,a5,a6,a7,al⟩,b0,b1,b2,b3,b4,b5,b6,b7⟩:=H2.out.nb.all
  obtain ⟨⟨c0,c1,c2,c3,c4,c5,c6,c7,cl⟩,d0,d1,d2,d3,d4,d5,d6,d7⟩:=H2.out.s0.rs.all
  obtain ⟨hrk,hkr⟩:=HNE.out
  go_wp2
  exact bodyPost_ret (v:=Nm.v ⟨x0,x1,x2,x3,x4,z,x6,x7⟩) (by simp only [results,Tryz.results11];go_simp <;> rfl) rfl ⟨_,rfl,(H2.out.set5 z).out _ _ _ _ _ _ _ _⟩
 have H2:=Lh H1.out
 have hnn:(y==0)=false∧(y==1)=false∧(y==2)=false∧(y==3)=false∧(y==4)=false∧(y==5)=false:=by simp;omega
 obtain ⟨n0,n1,n2,n3,n4,n5⟩:=hnn
 obtain ⟨⟨a0,a1,a2,a3,a4,a5,a6,a7,al⟩,b0,b1,b2,b3,b4,b5,b6,b7⟩:=H2.out.nb.all
 obtain ⟨⟨c0,c1,c2,c3,c4,c5,c6,c7,cl⟩,d0,d1,d2,d3,d4,d5,d6,d7⟩:=H2.out.s0.rs.all
 obtain ⟨hrk,hkr⟩:=HNE.out
 go_wp2
 exact bodyPost_ret (v:=Nm.v ⟨x0,x1,x2,x3,x4,x5,x6,x7⟩) (by simp only [results,Tryz.results11];go_simp <;> rfl) rfl ⟨_,rfl,H2.out.out _ _ _ _ _ _ _ _⟩
def SrHn (B g:Nat) (w:World) (e:Ending) (w' : World):Prop:=∃ H:Hn,e=.returned H.v∧SrcAt w' B g∧w.grownBy w' (some g)
structure Hb (W:World) (q:Nat) (H:Hn):Prop where
 c0:W.cell? ⟨q,0,none⟩=some (.int .i64 H.id)
 c1:W.cell? ⟨q,1,none⟩=some (.int .i64 H.gn)
 c2:W.cell? ⟨q,2,none⟩=some (.int .i64 H.rt)
 c3:W.cell? ⟨q,3,none⟩=some (.int .i64 H.ht)
 fr:∀ o,W.frozen? ⟨q,o,none⟩=false
 lt:q<W.heap.size
section
variable {w W W' : World} {p q g:Nat} {H:Hn}
theorem Hb.start (w:World) (a b c d:Int) (t:TypeId):Hb (w.alloc (.cells #[.int .i64 a,.int .i64 b,.int .i64 c,.int .i64 d] t)) w.heap.size ⟨a,b,c,d⟩:=
 ⟨by simp [go_sem],by simp [go_sem],by simp [go_sem],by simp [go_sem],fun o=>by simp [go_sem],by simp⟩
theorem Hb.keep (h:Hb W q H) (hs:W.heap.size≤W'.heap.size) (hc:∀ o,W'.cell? ⟨q,o,none⟩=W.cell? ⟨q,o,none⟩) (hf:∀ o,W'.frozen? ⟨q,o,none⟩=W.frozen? ⟨q,o,none⟩):Hb W' q H:=
 ⟨(hc 0).trans h.c0,(hc 1).trans h.c1,(hc 2).trans h.c2,(hc 3).trans h.c3,fun o=>(hf o).trans (h.fr o),Nat.lt_of_lt_of_le h.lt hs⟩
theorem Hb.up (h:Hb W q H) (hb:Below W.heap.size W W'):Hb W' q H:=h.keep hb.size (fun o=>hb.cell (p:=⟨q,o,none⟩) h.lt) (fun o=>hb.frozen (p:=⟨q,o,none⟩) h.lt)
theorem Hb.alloc (h:Hb W q H) (o:Obj):Hb (W.alloc o) q H:=h.up ((Below.refl _ _).alloc (Nat.le_refl _) o)
theorem Hb.grown (h:Hb W q H) (hg:W.grownBy W' (some g)) (hne:q≠g):Hb W' q H:=h.keep hg.size (fun o=>hg.cell_far ⟨q,o,none⟩ h.lt (fun e=>by injection e with e;exact hne e)) (fun o=>hg.frozen_far ⟨q,o,none⟩ h.lt (fun e=>by injection e with e;exact hne e))
theorem Hb.other (h:Hb W q H) {a:Addr} (hne:a.block≠q) (v:Value):Hb (W.setCell a v) q H:=
 h.keep (by simp) (fun o=>World.cell?_setCell_other W a ⟨q,o,none⟩ v (fun e=>hne (by rw [e]))) (fun o=>by simp [go_sem])
theorem Hb.all (h:Hb W q H):(W.cell? ⟨q,0,none⟩=some (.int .i64 H.id)∧W.cell? ⟨q,1,none⟩=some (.int .i64 H.gn)∧W.cell? ⟨q,2,none⟩=some (.int .i64 H.rt)∧W.cell? ⟨q,3,none⟩=some (.int .i64 H.ht)∧q<W.heap.size)∧
  W.frozen? ⟨q,0,none⟩=false∧W.frozen? ⟨q,1,none⟩=false∧W.frozen? ⟨q,2,none⟩=false∧W.frozen? ⟨q,3,none⟩=false:=⟨⟨h.c0,h.c1,h.c2,h.c3,h.lt⟩,h.fr 0,h.fr 1,h.fr 2,h.fr 3⟩
theorem Hb.set (h:Hb W q H) (a b c d:Int):Hb ((((W.setCell ⟨q,0,none⟩ (.int .i64 a)).setCell ⟨q,1,none⟩ (.int .i64 b)).setCell ⟨q,2,none⟩ (.int .i64 c)).setCell ⟨q,3,none⟩ (.int .i64 d)) q ⟨a,b,c,d⟩:=by
 obtain ⟨⟨c0,c1,c2,c3,l⟩,_⟩:=h.all
 exact ⟨by simp [go_sem,c0],by simp [go_sem,c1],by simp [go_sem,c2],by simp [go_sem,c3],fun o=>by simp [go_sem,h.fr o],by simp [l]⟩
end
structure Hd0 (w:World) (B g p r:Nat) (S:Sh) (D:Sx) (W:World):Prop where
 src:SrcAt W B g
 sb:SB8 W p S D
 sr:SR W W.heap.size S D
 off:SOff S D g
 rs:Hb W r ⟨0,0,0,0⟩
 grow:w.grownBy W (some g)
 old:g<w.heap.size∧w.heap.size≤p∧p<r∧B≤g∧r<W.heap.size
structure Hd1 (w:World) (B g p r k:Nat) (S:Sh) (D:Sx) (H:Hn) (W:World):Prop where
 h0:Hd0 w B g p r S D W
 hb:Hb W k H
 ne:r<k
section
variable {w W W' : World} {B g p r k:Nat} {S:Sh} {D:Sx} {H:Hn}
theorem SR.turn (h:SR W W.heap.size S D) (ho:SOff S D g) (hg:W.grownBy W' (some g)):SR W' W'.heap.size S D:=
 ⟨(h.ls.grownR (Nat.le_refl _) hg (fun q e=>by injection e with e;subst e;exact ho.o1)).more hg.size,(h.el.grownR (Nat.le_refl _) hg (fun q e=>by injection e with e;subst e;exact ho.o2)).more hg.size,(h.dl.grownR (Nat.le_refl _) hg (fun q e=>by injection e with e;subst e;exact ho.o3)).more hg.size⟩
theorem Hd0.turn (h:Hd0 w B g p r S D W) (hs:SrcAt W' B g) (hg:W.grownBy W' (some g)):Hd0 w B g p r S D W':=by
 have ho:=h.old
 exact ⟨hs,h.sb.grown hg (fun x e=>by injection e with e;omega),h.sr.turn h.off hg,h.off,h.rs.grown hg (by omega),h.grow.trans hg,ho.1,ho.2.1,ho.2.2.1,ho.2.2.2.1,Nat.lt_of_lt_of_le ho.2.2.2.2 hg.size⟩
theorem Hd0.below (h:Hd0 w B g p r S D W) (hb:Below W.heap.size W W'):Hd0 w B g p r S D W':=
 ⟨h.src.below hb,h.sb.up hb,h.sr.up hb,h.off,h.rs.up hb,only_below h.grow hb,h.old.1,h.old.2.1,h.old.2.2.1,h.old.2.2.2.1,Nat.lt_of_lt_of_le h.old.2.2.2.2 hb.size⟩
theorem Hd0.alloc (h:Hd0 w B g p r S D W) (o:Obj):Hd0 w B g p r S D (W.alloc o):=h.below ((Below.refl _ _).alloc (Nat.le_refl _) o)
theorem Hd1.turn (h:Hd1 w B g p r k S D H W) (hs:SrcAt W' B g) (hg:W.grownBy W' (some g)):Hd1 w B g p r k S D H W':=⟨h.h0.turn hs hg,h.hb.grown hg (by have:=h.h0.old;have:=h.ne;omega),h.ne⟩
theorem Hd1.below (h:Hd1 w B g p r k S D H W) (hb:Below W.heap.size W W'):Hd1 w B g p r k S D H W':=⟨h.h0.below hb,h.hb.up hb,h.ne⟩
theorem Hd1.alloc (h:Hd1 w B g p r k S D H W) (o:Obj):Hd1 w B g p r k S D H (W.alloc o):=h.below ((Below.refl _ _).alloc (Nat.le_refl _) o)
theorem Hd1.drew (h:Hd1 w B g p r k S D H W):Hd1 w B g p r k S D H W.drew:=h.below (Below.refl _ _).drew
theorem Hd0.other (h:Hd0 w B g p r S D W) {a:Addr} (h1:a.block≠r) (h2:r<a.block) (ho:SOff S D a.block) (v:Value):Hd0 w B g p r S D (W.setCell a v):=by
 have hd:=h.old
 exact ⟨h.src.other (p:=a) (by omega) (by omega) v,h.sb.other (by omega) v,(h.sr.offp ho v).more (by simp),h.off,h.rs.other h1 v,only_set h.grow (p:=a) (.inr (by omega)) v,hd.1,hd.2.1,hd.2.2.1,hd.2.2.2.1,by simp;exact hd.2.2.2.2⟩
theorem Hd0.out (hs:SrcAt W B g) (hg:w.grownBy W (some g)) (h1:w.heap.size≤r) (h2:g<w.heap.size) (h3:B≤g) (x0 x1 x2 x3:Value):SrcAt ((((W.setCell ⟨r,0,none⟩ x0).setCell ⟨r,1,none⟩ x1).setCell ⟨r,2,none⟩ x2).setCell ⟨r,3,none⟩ x3) B g∧w.grownBy ((((W.setCell ⟨r,0,none⟩ x0).setCell ⟨r,1,none⟩ x1).setCell ⟨r,2,none⟩ x2).setCell ⟨r,3,none⟩ x3) (some g):=by
 have e1:∀ o,(⟨r,o,none⟩:Addr).block≠g:=fun o=>show r≠g by omega
 have e2:∀ o,B≤(⟨r,o,none⟩:Addr).block:=fun o=>show B≤r by omega
 have e3:∀ o,(⟨r,o,none⟩:Addr).block=g∨w.heap.size≤(⟨r,o,none⟩:Addr).block:=fun o=>.inr (show w.heap.size≤r by omega)
 exact ⟨((((hs.other (e1 _) (e2 _) _).other (e1 _) (e2 _) _).other (e1 _) (e2 _) _).other (e1 _) (e2 _) _),only_set (only_set (only_set (only_set hg (e3 _) _) (e3 _) _) (e3 _) _) (e3 _) _⟩
structure Hd2 (w:World) (B g p r k q:Nat) (S:Sh) (D:Sx) (H:Hn) (M:Msg) (W:World):Prop where
 h1:Hd1 w B g p r k S D H W
 mb:MBx W q M
 ne:k<q
 off:SOff S D q
theorem Hd2.start (h:Hd1 w B g p r k S D H W) (ho:SOff S D W.heap.size) (M:Msg) (t:TypeId):Hd2 w B g p r k W.heap.size S D H M (W.alloc (.cells #[.int .i64 M.id,.int .i64 M.rt,.int .i64 M.ep,.int .i64 M.ct,.int .i64 M.gn,.int .i64 M.st,.string M.bd] t)):=
 ⟨h.alloc _,MBx.start W M t,h.hb.lt,ho⟩
theorem Hd2.turn {q:Nat} {M:Msg} (h:Hd2 w B g p r k q S D H M W) (hs:SrcAt W' B g) (hg:W.grownBy W' (some g)):Hd2 w B g p r k q S D H M W':=
 ⟨h.h1.turn hs hg,h.mb.grown hg (fun x e=>by injection e with e;have:=h.ne;have:=h.h1.ne;have:=h.h1.h0.old;omega),h.ne,h.off⟩
theorem Hd2.drew {q:Nat} {M:Msg} (h:Hd2 w B g p r k q S D H M W):Hd2 w B g p r k q S D H M W.drew:=⟨h.h1.drew,h.mb.up (Below.refl _ _).drew,h.ne,h.off⟩
theorem Hd1.other (h:Hd1 w B g p r k S D H W) {a:Addr} (h1:k<a.block) (ho:SOff S D a.block) (v:Value):Hd1 w B g p r k S D H (W.setCell a v):=by
 have:=h.ne
 exact ⟨h.h0.other (by omega) (by omega) ho v,h.hb.other (by omega) v,h.ne⟩
theorem Hd2.put7 {q:Nat} {M:Msg} (h:Hd2 w B g p r k q S D H M W) (N:Msg):Hd2 w B g p r k q S D H N ((((((((W.setCell ⟨q,0,none⟩ (.int .i64 N.id)).setCell ⟨q,1,none⟩ (.int .i64 N.rt)).setCell ⟨q,2,none⟩ (.int .i64 N.ep)).setCell ⟨q,3,none⟩ (.int .i64 N.ct)).setCell ⟨q,4,none⟩ (.int .i64 N.gn)).setCell ⟨q,5,none⟩ (.int .i64 N.st)).setCell ⟨q,6,none⟩ (.string N.bd))):=by
 have e1:∀ o,k<(⟨q,o,none⟩:Addr).block:=fun _=>h.ne
 have e2:∀ o,SOff S D (⟨q,o,none⟩:Addr).block:=fun _=>h.off
 exact ⟨((((((h.h1.other (e1 0) (e2 0) _).other (e1 1) (e2 1) _).other (e1 2) (e2 2) _).other (e1 3) (e2 3) _).other (e1 4) (e2 4) _).other (e1 5) (e2 5) _).other (e1 6) (e2 6) _,h.mb.put7 N,h.ne,h.off⟩
theorem Hd2.frs {q:Nat} {M:Msg} (h:Hd2 w B g p r k q S D H M W):W.frozen? ⟨q,0,none⟩=false∧W.frozen? ⟨q,1,none⟩=false∧W.frozen? ⟨q,2,none⟩=false∧W.frozen? ⟨q,3,none⟩=false∧W.frozen? ⟨q,4,none⟩=false∧W.frozen? ⟨q,5,none⟩=false∧W.frozen? ⟨q,6,none⟩=false∧q<W.heap.size:=
 ⟨h.mb.fr 0,h.mb.fr 1,h.mb.fr 2,h.mb.fr 3,h.mb.fr 4,h.mb.fr 5,h.mb.fr 6,h.mb.lt⟩
theorem Hd1.cellt (h:Hd1 w B g p r k S D H W) {b o j:Nat} (hA:D.A2=some ⟨b,o,none⟩) (hj:j<S.l.length):b<W.heap.size:=by
 have:=h.h0.sr.el
 rw [hA] at this
 exact (this.c8 hj).2
theorem Hd1.out (h:Hd1 w B g p r k S D H W) (x0 x1 x2 x3:Value):SrcAt ((((W.setCell ⟨r,0,none⟩ x0).setCell ⟨r,1,none⟩ x1).setCell ⟨r,2,none⟩ x2).setCell ⟨r,3,none⟩ x3) B g∧w.grownBy ((((W.setCell ⟨r,0,none⟩ x0).setCell ⟨r,1,none⟩ x1).setCell ⟨r,2,none⟩ x2).setCell ⟨r,3,none⟩ x3) (some g):=
 Hd0.out h.h0.src h.h0.grow (by have:=h.h0.old;omega) h.h0.old.1 h.h0.old.2.2.2.1 _ _ _ _
theorem Hd1.outk (h:Hd1 w B g p r k S D H W) (o:Nat) (v x0 x1 x2 x3:Value):SrcAt (((((W.setCell ⟨k,o,none⟩ v).setCell ⟨r,0,none⟩ x0).setCell ⟨r,1,none⟩ x1).setCell ⟨r,2,none⟩ x2).setCell ⟨r,3,none⟩ x3) B g∧w.grownBy (((((W.setCell ⟨k,o,none⟩ v).setCell ⟨r,0,none⟩ x0).setCell ⟨r,1,none⟩ x1).setCell ⟨r,2,none⟩ x2).setCell ⟨r,3,none⟩ x3) (some g):=by
 have ho:=h.h0.old
 have hn:=h.ne
 exact Hd0.out (h.h0.src.other (p:=⟨k,o,none⟩) (show k≠g by omega) (show B≤k by omega) v) (only_set h.h0.grow (p:=⟨k,o,none⟩) (.inr (show w.heap.size≤k by omega)) v) (by omega) ho.1 ho.2.2.2.1 _ _ _ _
theorem Hd1.set4 (h:Hd1 w B g p r k S D H W) (hk:SOff S D k) (a b c d:Int):Hd1 w B g p r k S D ⟨a,b,c,d⟩ ((((W.setCell ⟨k,0,none⟩ (.int .i64 a)).setCell ⟨k,1,none⟩ (.int .i64 b)).setCell ⟨k,2,none⟩ (.int .i64 c)).setCell ⟨k,3,none⟩ (.int .i64 d)):=by
 have hn:=h.ne
 have e1:∀ o,(⟨k,o,none⟩:Addr).block≠r:=fun o=>show k≠r by omega
 have e2:∀ o,r<(⟨k,o,none⟩:Addr).block:=fun o=>hn
 exact ⟨(((h.h0.other (e1 0) (e2 0) hk _).other (e1 1) (e2 1) hk _).other (e1 2) (e2 2) hk _).other (e1 3) (e2 3) hk _,h.hb.set a b c d,hn⟩
theorem Hd1.cell (h:Hd1 w B g p r k S D H W) {b o j:Nat} (hA:D.A2=some ⟨b,o,none⟩) (hj:j<S.l.length):C8 W b (o+j*8) S.l[j]:=by
 have:=h.h0.sr.el
 rw [hA] at this
 exact (this.c8 hj).1
end
set_option maxHeartbeats 16000000 in
set_option maxRecDepth 20000 in
theorem handle_any (B g:Nat) (S:Sh) (D:Sx) (w:World) (h:SrcAt w B g) (hs:SR w w.heap.size S D) (ho:SOff S D g) (h12:S.l.length≤1000):Calls Tryz.prog 12 #[.pointer (some ⟨g,0,none⟩),sv S D] w (SrHn B g w):=by
 have H0:=Lh (show Hd0 w B g w.heap.size (w.heap.size+1) S D ((w.alloc (.cells #[.bool S.lv,.int .i64 S.lo,.int .i64 S.hi,.slice D.A S.cs.length D.c,.int .i64 S.hd,.int .i64 S.sz,.slice D.A2 S.l.length D.c2,.slice D.A3 S.h.length D.c3] 33)).alloc (.cells #[.int .i64 0,.int .i64 0,.int .i64 0,.int .i64 0] 40)) from by
  have b1:Below w.heap.size w (w.alloc (.cells #[.bool S.lv,.int .i64 S.lo,.int .i64 S.hi,.slice D.A S.cs.length D.c,.int .i64 S.hd,.int .i64 S.sz,.slice D.A2 S.l.length D.c2,.slice D.A3 S.h.length D.c3] 33)):=(Below.refl _ _).alloc (Nat.le_refl _) _
  have b2:=(Below.refl (w.alloc (.cells #[.bool S.lv,.int .i64 S.lo,.int .i64 S.hi,.slice D.A S.cs.length D.c,.int .i64 S.hd,.int .i64 S.sz,.slice D.A2 S.l.length D.c2,.slice D.A3 S.h.length D.c3] 33)).heap.size _).alloc (Nat.le_refl _) (.cells #[.int .i64 0,.int .i64 0,.int .i64 0,.int .i64 0] 40)
  have hr:=Hb.start (w.alloc (.cells #[.bool S.lv,.int .i64 S.lo,.int .i64 S.hi,.slice D.A S.cs.length D.c,.int .i64 S.hd,.int .i64 S.sz,.slice D.A2 S.l.length D.c2,.slice D.A3 S.h.length D.c3] 33)) 0 0 0 0 40
  rw [show (w.alloc (.cells #[.bool S.lv,.int .i64 S.lo,.int .i64 S.hi,.slice D.A S.cs.length D.c,.int .i64 S.hd,.int .i64 S.sz,.slice D.A2 S.l.length D.c2,.slice D.A3 S.h.length D.c3] 33)).heap.size=w.heap.size+1 by simp] at hr
  exact ⟨(h.alloc _).alloc _,(SB8.start w S D _).up b2,(hs.up b1).up b2,ho,hr,only_alloc (only_alloc (World.grownBy.refl w (some g)) _) _,h.2.1,Nat.le_refl _,Nat.lt_succ_self _,h.1,by simp⟩)
 have HL:=Lh h12
 have HOF:=Lh (fun q (hq:w.heap.size≤q)=>hs.offs hq)
 clear h hs ho h12
 go_enter Tryz.func12,Tryz.ntmps12
 go_wp2_with fail
 obtain ⟨p,hp⟩:∃ p,p=w.heap.size:=⟨_,rfl⟩
 obtain ⟨r,hr⟩:∃ r,r=w.heap.size+1:=⟨_,rfl⟩
 have HPW:=Lh hp
 rw [←hr,←hp] at H0
 rw [←hr,←hp]
 clear hr hp
 generalize ((w.alloc (.cells #[.bool S.lv,.int .i64 S.lo,.int .i64 S.hi,.slice D.A S.cs.length D.c,.int .i64 S.hd,.int .i64 S.sz,.slice D.A2 S.l.length D.c2,.slice D.A3 S.h.length D.c3] 33)).alloc (.cells #[.int .i64 0,.int .i64 0,.int .i64 0,.int .i64 0] 40))=w1 at*
 refine (range_any B g _ H0.out.src 1 20 (by omega) (by omega) (by omega)).mono ?_
 rintro e w2 ⟨x0,rfl,_,_,hs,hg⟩
 have H0:=Lh (H0.out.turn hs hg)
 clear hs hg
 go_wp2_with fail
 refine (range_any B g _ H0.out.src 1 4 (by omega) (by omega) (by omega)).mono ?_
 rintro e w2 ⟨x1,rfl,_,_,hs,hg⟩
 have H0:=Lh (H0.out.turn hs hg)
 clear hs hg
 go_wp2_with fail
 refine (n_any B g _ H0.out.src 65536 (by omega) (by omega)).mono ?_
 rintro e w2 ⟨x2,rfl,_,_,hs,hg⟩
 have H0:=Lh (H0.out.turn hs hg)
 clear hs hg
 go_wp2_with fail
 refine (n_any B g _ H0.out.src 6 (by omega) (by omega)).mono ?_
 rintro e w2 ⟨x3,rfl,_,_,hs,hg⟩
 have H0:=Lh (H0.out.turn hs hg)
 clear hs hg
 have HK:=Lh (show Hd1 w B g p r w2.heap.size S D ⟨x0,x1,x2,x3⟩ (w2.alloc (.cells #[.int .i64 x0,.int .i64 x1,.int .i64 x2,.int .i64 x3] 40)) from ⟨H0.out.alloc _,Hb.start w2 x0 x1 x2 x3 _,H0.out.old.2.2.2.2⟩)
 have HKO:=Lh (show SOff S D w2.heap.size from HOF.out _ (by have:=H0.out.old;omega))
 obtain ⟨⟨t0,t1,t2,t3,t4,t5,t6,t7,tl⟩,-⟩:=HK.out.h0.sb.all
 by_cases hl0:S.l.length=0
 ·have hl0' : ¬(0:Int)<(S.l.length:Int):=by omega
  clear H0
  have HNE:=Lh (show ¬r=w2.heap.size∧¬w2.heap.size=r by have:=HK.out.ne;omega)
  obtain ⟨⟨a0,a1,a2,a3,al⟩,b0,b1,b2,b3⟩:=HK.out.hb.all
  obtain ⟨⟨c0,c1,c2,c3,cl⟩,d0,d1,d2,d3⟩:=HK.out.h0.rs.all
  obtain ⟨hrk,hkr⟩:=HNE.out
  go_wp2
  exact bodyPost_ret (v:=Hn.v ⟨x0,x1,x2,x3⟩) (by simp only [results,Tryz.results12];go_simp <;> rfl) rfl ⟨_,rfl,HK.out.out _ _ _ _⟩
 ·have hl0' : (0:Int)<(S.l.length:Int):=by omega
  have hl0n:0<S.l.length:=by omega
  have hl1:(S.l.length:Int)≤1000:=by have:=HL.out;omega
  clear H0
  go_wp2_with fail
  obtain ⟨k,hk⟩:∃ k,k=w2.heap.size:=⟨_,rfl⟩
  rw [←hk] at HK HKO ⊢
  clear hk
  have HNE:=Lh (show ¬r=k∧¬k=r by have:=HK.out.ne;omega)
  refine (n_any B g _ HK.out.h0.src 5 (by omega) (by omega)).mono ?_
  rintro e w5 ⟨z,rfl,_,_,hs,hg⟩
  have HK:=Lh (HK.out.turn hs hg)
  clear hs hg t0 t1 t2 t3 t4 t5 t6 t7 tl
  obtain ⟨⟨t0,t1,t2,t3,t4,t5,t6,t7,tl⟩,-⟩:=HK.out.h0.sb.all
  by_cases hz:0<z
  ·obtain ⟨b,o,hA,_⟩:=HK.out.h0.sr.el.some_ hl0n
   have HA:=Lh hA
   have hz0:(0:Int)<z:=hz
   go_upto_region 4 with (fail)
   have HN:=Lh (fun W (h:Hd1 w B g p r k S D ⟨x0,x1,x2,x3⟩ W)=>n_any B g W h.h0.src S.l.length (by omega) (by omega))
   have HD:=Lh HK.out.drew
   have HD2:=Lh (show Hd2 w B g p r k w5.heap.size S D ⟨x0,x1,x2,x3⟩ ⟨0,0,0,0,0,0,⟨#[]⟩⟩ (w5.alloc (.cells #[.int .i64 0,.int .i64 0,.int .i64 0,.int .i64 0,.int .i64 0,.int .i64 0,.string ⟨#[]⟩] 56)).drew from (Hd2.start HK.out (HOF.out _ (by have:=HK.out.h0.old;omega)) ⟨0,0,0,0,0,0,⟨#[]⟩⟩ 56).drew)
   obtain ⟨⟨t0,t1,t2,t3,t4,t5,t6,t7,tl⟩,-⟩:=HK.out.h0.sb.all
   rw [hA] at t6
   go_cut [7] (fun s7 wx=>∃ (q:Nat) (M:Msg),s7=.pointer (some ⟨q,0,none⟩)∧Hid (Hd2 w B g p r k q S D ⟨x0,x1,x2,x3⟩ M wx))
   case first=>
    go_region_law (first
     | (go_simp;go_at_call 14;(with_reducible refine (HN.out _ HD.out).mono ?_);rintro e w6 ⟨x,rfl,i0,i1,hs,hg⟩;obtain ⟨j,rfl⟩:=Int.eq_ofNat_of_zero_le i0;have hj:j<S.l.length:=(by omega);have hji:(j:Int)<(S.l.length:Int):=(by omega);have HD:=Lh (HD.out.turn hs hg);obtain ⟨y0,y1,y2,y3,y4,y5,y6,y7⟩:=HD.out.cell HA.out hj;have hbl:=HD.out.cellt HA.out hj;clear t0 t1 t2 t3 t4 t5 t6 t7 tl i0 i1 hs hg;obtain ⟨⟨t0,t1,t2,t3,t4,t5,t6,t7,tl⟩,-⟩:=HD.out.h0.sb.all;rw [HA.out] at t6;have HGA:=Lh (fun M=>Hd2.start HD.out (HOF.out _ (by have:=HD.out.h0.old;omega)) M 56))
     | (go_simp;go_at_call 14;(with_reducible refine (HN.out _ HD2.out.h1).mono ?_);rintro e w6 ⟨x,rfl,i0,i1,hs,hg⟩;obtain ⟨j,rfl⟩:=Int.eq_ofNat_of_zero_le i0;have hj:j<S.l.length:=(by omega);have hji:(j:Int)<(S.l.length:Int):=(by omega);have HD2:=Lh (HD2.out.turn hs hg);obtain ⟨y0,y1,y2,y3,y4,y5,y6,y7⟩:=HD2.out.h1.cell HA.out hj;have hbl:=HD2.out.h1.cellt HA.out hj;clear t0 t1 t2 t3 t4 t5 t6 t7 tl i0 i1 hs hg;obtain ⟨⟨t0,t1,t2,t3,t4,t5,t6,t7,tl⟩,-⟩:=HD2.out.h1.h0.sb.all;rw [HA.out] at t6;obtain ⟨u0,u1,u2,u3,u4,u5,u6⟩:=HD2.out.mb.m7;obtain ⟨f0,f1,f2,f3,f4,f5,f6,ul⟩:=HD2.out.frs;have HGA:=Lh (fun M=>HD2.out.put7 M)))
    all_goals (go_wp2_with fail;go_meet;exact ⟨_,S.l[j].m,rfl,Lh (HGA.out _)⟩)
   case rest=>
    obtain ⟨q,M,rfl,H2⟩:=hcut
    generalize wc=w7 at*
    have HK:=Lh (H2.out.h1.set4 HKO.out M.id M.gn M.rt x3)
    obtain ⟨v0,v1,v2,v3,v4,v5,v6⟩:=H2.out.mb.m7
    have vl:=H2.out.mb.lt
    obtain ⟨⟨a0,a1,a2,a3,al⟩,b0,b1,b2,b3⟩:=H2.out.h1.hb.all
    have hqk:¬q=k∧¬k=q:=by have:=H2.out.ne;omega
    obtain ⟨hqk,hkq⟩:=hqk
    go_wp2_with fail
    clear a0 a1 a2 a3 al b0 b1 b2 b3 v0 v1 v2 v3 v4 v5 v6 vl
    refine (n_any B g _ HK.out.h0.src 8 (by omega) (by omega)).mono ?_
    rintro e w8 ⟨y,rfl,_,_,hs,hg⟩
    have HK:=Lh (HK.out.turn hs hg)
    clear hs hg
    by_cases hy0:y=0
    ·subst hy0
     obtain ⟨⟨a0,a1,a2,a3,al⟩,b0,b1,b2,b3⟩:=HK.out.hb.all
     obtain ⟨⟨c0,c1,c2,c3,cl⟩,d0,d1,d2,d3⟩:=HK.out.h0.rs.all
     obtain ⟨hrk,hkr⟩:=HNE.out
     go_wp2
     exact bodyPost_ret (v:=Hn.v ⟨M.id,wrap64 (M.gn+1),M.rt,x3⟩) (by simp only [results,Tryz.results12];go_simp <;> rfl) rfl ⟨_,rfl,HK.out.outk 1 _ _ _ _ _⟩
    by_cases hy1:y=1
    ·subst hy1
     obtain ⟨⟨a0,a1,a2,a3,al⟩,b0,b1,b2,b3⟩:=HK.out.hb.all
     obtain ⟨⟨c0,c1,c2,c3,cl⟩,d0,d1,d2,d3⟩:=HK.out.h0.rs.all
     obtain ⟨hrk,hkr⟩:=HNE.out
     go_wp2
     exact bodyPost_ret (v:=Hn.v ⟨M.id,M.gn,(wrap64 (M.rt+1)).tmod 65536,x3⟩) (by simp only [results,Tryz.results12];go_simp <;> rfl) rfl ⟨_,rfl,HK.out.outk 2 _ _ _ _ _⟩
    have hn0:(y==0)=false:=by simpa using hy0
    have hn1:(y==1)=false:=by simpa using hy1
    obtain ⟨⟨a0,a1,a2,a3,al⟩,b0,b1,b2,b3⟩:=HK.out.hb.all
    obtain ⟨⟨c0,c1,c2,c3,cl⟩,d0,d1,d2,d3⟩:=HK.out.h0.rs.all
    obtain ⟨hrk,hkr⟩:=HNE.out
    go_wp2
    exact bodyPost_ret (v:=Hn.v ⟨M.id,M.gn,M.rt,x3⟩) (by simp only [results,Tryz.results12];go_simp <;> rfl) rfl ⟨_,rfl,HK.out.out _ _ _ _⟩
  ·obtain ⟨⟨a0,a1,a2,a3,al⟩,b0,b1,b2,b3⟩:=HK.out.hb.all
   obtain ⟨⟨c0,c1,c2,c3,cl⟩,d0,d1,d2,d3⟩:=HK.out.h0.rs.all
   obtain ⟨hrk,hkr⟩:=HNE.out
   go_wp2
   exact bodyPost_ret (v:=Hn.v ⟨x0,x1,x2,x3⟩) (by simp only [results,Tryz.results12];go_simp <;> rfl) rfl ⟨_,rfl,HK.out.out _ _ _ _⟩
theorem eqm_fuel (M:Msg) (f:Nat) (W:World):(Op.equalIn (f+2) 56 M.v M.v).run Tryz.prog W=.ok true W:=by
 have u3:=Tryz.underlying3
 have u9:=Tryz.underlying9
 have hS:Tryz.prog.underlying 56=some (.struct (Tryz.prog.fieldsOf 56)):=by kernel_rfl
 have hp:Tryz.prog.stoodInHeld 56=false:=by kernel_rfl
 rw [show f+2=(f+1)+1 from rfl,run_equalIn_agg W (f+1) 56 _ _ hS hp]
 simp only [Program.fieldsOf,Tryz.underlying56]
 go_simp
theorem eql_in (x:Le) (W:World):(Op.equalIn 10000 58 x.v x.v).run Tryz.prog W=.ok true W:=by
 have u3:=Tryz.underlying3
 have hS:Tryz.prog.underlying 58=some (.struct (Tryz.prog.fieldsOf 58)):=by kernel_rfl
 have hp:Tryz.prog.stoodInHeld 58=false:=by kernel_rfl
 have hM:=fun W=>eqm_fuel x.m 9997 W
 rw [show (10000:Nat)=9999+1 from rfl,run_equalIn_agg W 9999 58 _ _ hS hp]
 simp only [Program.fieldsOf,Tryz.underlying58]
 go_simp
theorem eql (x:Le):∀ W,(binOp .eql 58 x.v x.v).run Tryz.prog W=.ok (.bool true) W:=fun W=>by
 rw [run_eql_struct,eql_in];rfl
theorem neql (x:Le):∀ W,(binOp .neq 58 x.v x.v).run Tryz.prog W=.ok (.bool false) W:=fun W=>by
 rw [run_neq_struct,eql_in];rfl
end Go.Proofs.YtncgbldcjfbknaaGreat
namespace Go.Proofs.YtncgbldcjfbknaaGreat
open Go.RowKit
theorem bel_drewN {B:Nat} {a w:World} (h:Below B a w) (n:Nat):Below B a (w.drewN n):=⟨h.os,h.tape,h.output,h.size,h.block⟩
end Go.Proofs.YtncgbldcjfbknaaGreat
namespace Go.Proofs.YtncgbldcjfbknaaGreat
open Go.RowKit
set_option linter.unusedVariables false
set_option maxHeartbeats 2000000 in
theorem rsame5_yes (A A' : Option Addr) (n n' c c' : Nat) (l:List Du) (w:World) (B B' : Nat) (hv:Dl w B (.slice A n c) l) (hv' : Dl w B' (.slice A' n' c') l) :
  Calls Tryz.prog 206 #[.slice A n c,.slice A' n' c'] w fun e w'=>e=.returned (.bool true)∧Below w.heap.size w w':=by
 obtain ⟨rfl,hm1,hm2⟩:=hv.len
 obtain ⟨rfl,hm1',hm2'⟩:=hv'.len
 have hL:l.length≤9223372036854775807:=by unfold maxLen at hm2;omega
 have HV:=Lh hv
 have HV':=Lh hv'
 have HB:=Lh (Below.refl w.heap.size w)
 clear hv hm1 hm2 hv' hm1' hm2'
 go_enter Tryz.func206,Tryz.ntmps206
 go_wp2
 go_loopw [5] (fun i wr=>∃ k:Nat,k≤l.length∧i=.int .i64 k∧Dl wr B (.slice A l.length c) l∧Dl wr B' (.slice A' l.length c') l∧Below w.heap.size w wr) (fun i _=>l.length - (intOf i).toNat)
 case atStart=>exact ⟨0,by omega,rfl,HV.out,HV'.out,HB.out⟩
 case round=>
  obtain ⟨k,hk,rfl,hv,hv',hb⟩:=hrel
  have HV:=Lh hv
  have HV':=Lh hv'
  have HB:=Lh hb
  clear hv hv' hb
  by_cases hlt:k<l.length
  ·obtain ⟨b,o,rfl,hb,c0,c1⟩:=HV.out.atg hlt
   obtain ⟨b',o',rfl,hb',d0,d1⟩:=HV'.out.atg hlt
   generalize ge l k=M at*
   have hne:=neqd_no M
   go_wp2
   go_quiet (fail)
   go_wp2
   go_roundw
   case rel=>exact ⟨k+1,by omega,by go_num,HV.out.drewN _,HV'.out.drewN _,bel_drewN HB.out _⟩
   case measure=>simp [intOf];omega
  ·go_wp2
   go_ret
   exact ⟨rfl,HB.out⟩
end Go.Proofs.YtncgbldcjfbknaaGreat
