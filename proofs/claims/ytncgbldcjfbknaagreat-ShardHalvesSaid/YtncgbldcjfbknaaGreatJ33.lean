/- What is proved here: From, Between, Span, Shard of the statements' base; what shardqueuelaw07.ShardLeases reads; Sid; shard.Change by a contract; shard.Expire of a shard or of numbers with an error. -/
import Derived.Test.YtncgbldcjfbknaaGreatJ32
namespace Go.Proofs.YtncgbldcjfbknaaGreat
open Go.RowKit
set_option linter.unusedVariables false
theorem srs_out {B g r:Nat} {w W1 W:World} {S:Sh} {D:Sx} (hS:SrSh S) (hn:D.nw W1.heap.size) (hr1:r<W1.heap.size) (hr:SR W W.heap.size S D) (hs:SrcAt W B g) (hg:w.grownBy W (some g)) (hw:w.heap.size≤r) (hrg:¬r=g) (hB:B≤r):SrShard B g w (.returned (sv S D)) (set8s W r S D):=
 ⟨S,D,rfl,hS,hn.low (by omega),SR.sets (hn.off hr1) (S.l8 D) 0 W hr,hs.sets8 hrg hB S D,only_sets8 hg hw S D⟩
set_option maxHeartbeats 4000000 in
set_option maxRecDepth 20000 in
theorem from_any (B g:Nat) (w:World) (hsrc:SrcAt w B g) (id lo hi:Int) (i1:1≤id) (i2:id≤100000) (l0:0≤lo) (l1:lo≤hi) (l2:hi≤65535) :
  Calls Tryz.prog 91 #[.pointer (some ⟨g,0,none⟩),.int .i64 id,.int .i64 lo,.int .i64 hi] w (SrShard B g w):=by
 have HG0:=Lh (show g<w.heap.size∧B≤g from ⟨hsrc.2.1,hsrc.1⟩)
 have R0:=Lh (SB8.zero w 33)
 have G0:=Lh (only_alloc (World.grownBy.refl w (some g)) (.cells #[.bool false,.int .i64 0,.int .i64 0,.slice none 0 0,.int .i64 0,.int .i64 0,.slice none 0 0,.slice none 0 0] 33))
 have S0:=Lh (hsrc.alloc (.cells #[.bool false,.int .i64 0,.int .i64 0,.slice none 0 0,.int .i64 0,.int .i64 0,.slice none 0 0,.slice none 0 0] 33))
 have HFO:=Lh (fun k (k1:1≤k) (k2:k≤12) W (q:SrcAt W B g)=>fromof_any B g W q k id lo hi k1 k2 i1 i2 l0 l1 l2)
 clear hsrc
 go_enter Tryz.func91,Tryz.ntmps91
 go_wp2_with fail
 obtain ⟨r,hr⟩:∃ r,r=w.heap.size:=⟨_,rfl⟩
 have HRW:=Lh (show w.heap.size≤r∧¬r=g∧B≤r by have:=HG0.out;omega)
 rw [←hr]
 rw [←hr] at R0
 clear hr
 generalize (w.alloc (.cells #[.bool false,.int .i64 0,.int .i64 0,.slice none 0 0,.int .i64 0,.int .i64 0,.slice none 0 0,.slice none 0 0] 33))=w1 at*
 refine (range_any B g _ S0.out 1 12 (by omega) (by omega) (by omega)).mono ?_
 rintro e w2 ⟨x,rfl,x0,x1,hs,hg⟩
 obtain ⟨k,rfl⟩:=Int.eq_ofNat_of_zero_le (show 0≤x by omega)
 have S1:=Lh hs
 have R1:=Lh (R0.out.grownG hg HRW.out.2.1)
 have G1:=Lh (G0.out.trans hg)
 have HF1:=Lh (HFO.out k (by omega) (by omega) w2 hs)
 clear hs hg
 go_wp2_with fail
 refine HF1.out.mono ?_
 rintro e w3 ⟨S,D,rfl,hS,hn,hr,hs,hg⟩
 have R2:=Lh (R1.out.grownG hg HRW.out.2.1)
 have HF:=Lh (srs_out hS hn R1.out.lt hr hs (G1.out.trans hg) HRW.out.1 HRW.out.2.1 HRW.out.2.2)
 clear hS hn hr hs hg
 obtain ⟨⟨r0,r1,r2,r3,r4,r5,r6,r7,rl⟩,⟨g0,g1,g2,g3,g4,g5,g6,g7⟩⟩:=R2.out.all
 go_wp2
 exact bodyPost_ret (v:=sv S D) (by simp only [results,Tryz.results91];go_simp <;> rfl) rfl HF.out
set_option maxHeartbeats 4000000 in
set_option maxRecDepth 20000 in
theorem between_any (B g:Nat) (w:World) (hsrc:SrcAt w B g) (lo hi:Int) (l0:0≤lo) (l1:lo≤hi) (l2:hi≤65535) :
  Calls Tryz.prog 38 #[.pointer (some ⟨g,0,none⟩),.int .i64 lo,.int .i64 hi] w (SrShard B g w):=by
 have HG0:=Lh (show g<w.heap.size∧B≤g from ⟨hsrc.2.1,hsrc.1⟩)
 have R0:=Lh (SB8.zero w 33)
 have G0:=Lh (only_alloc (World.grownBy.refl w (some g)) (.cells #[.bool false,.int .i64 0,.int .i64 0,.slice none 0 0,.int .i64 0,.int .i64 0,.slice none 0 0,.slice none 0 0] 33))
 have S0:=Lh (hsrc.alloc (.cells #[.bool false,.int .i64 0,.int .i64 0,.slice none 0 0,.int .i64 0,.int .i64 0,.slice none 0 0,.slice none 0 0] 33))
 have HFO:=Lh (fun W (q:SrcAt W B g)=>from_any B g W q 1 lo hi (by omega) (by omega) l0 l1 l2)
 clear hsrc
 go_enter Tryz.func38,Tryz.ntmps38
 go_wp2_with fail
 obtain ⟨r,hr⟩:∃ r,r=w.heap.size:=⟨_,rfl⟩
 have HRW:=Lh (show w.heap.size≤r∧¬r=g∧B≤r by have:=HG0.out;omega)
 rw [←hr]
 rw [←hr] at R0
 clear hr
 generalize (w.alloc (.cells #[.bool false,.int .i64 0,.int .i64 0,.slice none 0 0,.int .i64 0,.int .i64 0,.slice none 0 0,.slice none 0 0] 33))=w1 at*
 refine (HFO.out _ S0.out).mono ?_
 rintro e w3 ⟨S,D,rfl,hS,hn,hr,hs,hg⟩
 have R2:=Lh (R0.out.grownG hg HRW.out.2.1)
 have HF:=Lh (srs_out hS hn R0.out.lt hr hs (G0.out.trans hg) HRW.out.1 HRW.out.2.1 HRW.out.2.2)
 clear hS hn hr hs hg
 obtain ⟨⟨r0,r1,r2,r3,r4,r5,r6,r7,rl⟩,⟨g0,g1,g2,g3,g4,g5,g6,g7⟩⟩:=R2.out.all
 go_wp2
 exact bodyPost_ret (v:=sv S D) (by simp only [results,Tryz.results38];go_simp <;> rfl) rfl HF.out
/-- A span of routes. -/
def SrSpan (B g:Nat) (w:World) (e:Ending) (w' : World):Prop:=∃ lo hi,e=.returned (.tuple #[.int .i64 lo,.int .i64 hi])∧0≤lo∧lo≤hi∧hi≤65535∧SrcAt w' B g∧w.grownBy w' (some g)
theorem row5 (w:World) (a b c d e:Int) (t:TypeId):∀ j (hj:j < [a,b,c,d,e].length),(w.alloc (.cells #[.int .i64 a,.int .i64 b,.int .i64 c,.int .i64 d,.int .i64 e] t)).cell? ⟨w.heap.size,j,none⟩=some (.int .i64 [a,b,c,d,e][j]):=by
 intro j hj
 have h5:j<5:=hj
 match j,h5 with
 | 0,_=>simp [go_sem]
 | 1,_=>simp [go_sem]
 | 2,_=>simp [go_sem]
 | 3,_=>simp [go_sem]
 | 4,_=>simp [go_sem]
set_option maxHeartbeats 4000000 in
set_option maxRecDepth 20000 in
theorem span_any (B g:Nat) (w:World) (hsrc:SrcAt w B g) :
  Calls Tryz.prog 37 #[.pointer (some ⟨g,0,none⟩)] w (SrSpan B g w):=by
 have HG0:=Lh (show g<w.heap.size∧B≤g from ⟨hsrc.2.1,hsrc.1⟩)
 have P0:=Lh (pick_any B g (w.alloc (.cells #[.int .i64 0,.int .i64 0,.int .i64 100,.int .i64 32768,.int .i64 65535] 3)) (hsrc.alloc (.cells #[.int .i64 0,.int .i64 0,.int .i64 100,.int .i64 32768,.int .i64 65535] 3)) w.heap.size 5 [0,0,100,32768,65535] rfl (by simp) (by have:=HG0.out;omega) (by omega) (by omega) (row5 w 0 0 100 32768 65535 3))
 have G0:=Lh (only_alloc (World.grownBy.refl w (some g)) (.cells #[.int .i64 0,.int .i64 0,.int .i64 100,.int .i64 32768,.int .i64 65535] 3))
 clear hsrc
 go_enter Tryz.func37,Tryz.ntmps37
 go_wp2_with fail
 refine P0.out.mono ?_
 rintro e w2 ⟨x,rfl,hx,hs,hg⟩
 have HX:=Lh (show 0≤x∧x≤65535 by simp at hx;omega)
 have P1:=Lh (pick_any B g (w2.alloc (.cells #[.int .i64 65535,.int .i64 65535,.int .i64 40000,.int .i64 101,.int .i64 32768] 3)) (hs.alloc (.cells #[.int .i64 65535,.int .i64 65535,.int .i64 40000,.int .i64 101,.int .i64 32768] 3)) w2.heap.size 5 [65535,65535,40000,101,32768] rfl (by simp) (by have:=hs.2.1;omega) (by omega) (by omega) (row5 w2 65535 65535 40000 101 32768 3))
 have G1:=Lh (only_alloc (G0.out.trans hg) (.cells #[.int .i64 65535,.int .i64 65535,.int .i64 40000,.int .i64 101,.int .i64 32768] 3))
 clear hx hs hg
 go_wp2_with fail
 refine P1.out.mono ?_
 rintro e w3 ⟨y,rfl,hy,hs,hg⟩
 have HF:=Lh (show SrSpan B g w (.returned (.tuple #[.int .i64 (min x y),.int .i64 (max x y)])) w3 from
  ⟨_,_,rfl,by have:=HX.out;simp at hy;omega,by omega,by have:=HX.out;simp at hy;omega,hs,G1.out.trans hg⟩)
 clear hy hs hg
 go_wp2
 exact bodyPost_ret (v:=.tuple #[.int .i64 (min x y),.int .i64 (max x y)]) (by simp only [results,Tryz.results37];go_simp <;> rfl) rfl HF.out
set_option maxHeartbeats 4000000 in
set_option maxRecDepth 20000 in
theorem shard_any (B g:Nat) (w:World) (hsrc:SrcAt w B g) :
  Calls Tryz.prog 9 #[.pointer (some ⟨g,0,none⟩)] w (SrShard B g w):=by
 have HG0:=Lh (show g<w.heap.size∧B≤g from ⟨hsrc.2.1,hsrc.1⟩)
 have R0:=Lh (SB8.zero w 33)
 have G0:=Lh (only_alloc (World.grownBy.refl w (some g)) (.cells #[.bool false,.int .i64 0,.int .i64 0,.slice none 0 0,.int .i64 0,.int .i64 0,.slice none 0 0,.slice none 0 0] 33))
 have S0:=Lh (hsrc.alloc (.cells #[.bool false,.int .i64 0,.int .i64 0,.slice none 0 0,.int .i64 0,.int .i64 0,.slice none 0 0,.slice none 0 0] 33))
 clear hsrc
 go_enter Tryz.func9,Tryz.ntmps9
 go_wp2_with fail
 obtain ⟨r,hr⟩:∃ r,r=w.heap.size:=⟨_,rfl⟩
 have HRW:=Lh (show w.heap.size≤r∧¬r=g∧B≤r by have:=HG0.out;omega)
 rw [←hr]
 rw [←hr] at R0
 clear hr
 generalize (w.alloc (.cells #[.bool false,.int .i64 0,.int .i64 0,.slice none 0 0,.int .i64 0,.int .i64 0,.slice none 0 0,.slice none 0 0] 33))=w1 at*
 refine (span_any B g _ S0.out).mono ?_
 rintro e w2 ⟨lo,hi,rfl,l0,l1,l2,hs,hg⟩
 have R1:=Lh (R0.out.grownG hg HRW.out.2.1)
 have G1:=Lh (G0.out.trans hg)
 have HB:=Lh (between_any B g _ hs lo hi l0 l1 l2)
 clear hs hg l0 l1 l2
 go_wp2_with fail
 refine HB.out.mono ?_
 rintro e w3 ⟨S,D,rfl,hS,hn,hr,hs,hg⟩
 have R2:=Lh (R1.out.grownG hg HRW.out.2.1)
 have HF:=Lh (srs_out hS hn R1.out.lt hr hs (G1.out.trans hg) HRW.out.1 HRW.out.2.1 HRW.out.2.2)
 clear hS hn hr hs hg
 obtain ⟨⟨r0,r1,r2,r3,r4,r5,r6,r7,rl⟩,⟨g0,g1,g2,g3,g4,g5,g6,g7⟩⟩:=R2.out.all
 go_wp2
 exact bodyPost_ret (v:=sv S D) (by simp only [results,Tryz.results9];go_simp <;> rfl) rfl HF.out
theorem SAt.grownG {w W W' : World} {p g:Nat} {S:Sh} {D:Sx} (h:SAt w p S D W) (hg:W.grownBy W' (some g)) (ho:SOff S D g) (hne:p≠g) (hB:w.heap.size≤g):SAt w p S D W':=
 ⟨h.s8.grownG hg hne,⟨(h.sr.ls.grownR (Nat.le_refl _) hg (fun q e=>by injection e with e;subst e;exact ho.o1)).more hg.size,(h.sr.el.grownR (Nat.le_refl _) hg (fun q e=>by injection e with e;subst e;exact ho.o2)).more hg.size,(h.sr.dl.grownR (Nat.le_refl _) hg (fun q e=>by injection e with e;subst e;exact ho.o3)).more hg.size⟩,h.off,
  h.bel.grown hg h.bel.size (fun x e=>by injection e with e;omega),h.old⟩
theorem take_cases {S:Sh} (hS:SrSh S) (D:Sx) {mx now vis ep lim:Int} (hB:tkB mx now vis ep lim=true) (hdl:now+vis≤1073741824) :
  (∃ S' K,S.lv=true∧S'.sz4∧K.length≤12∧(∀ j (h:j<K.length),LvOk S S' K[j] now vis ep lim)∧∀ W,SR W W.heap.size S D→Calls Tryz.prog 15 #[sv S D,.int .i64 mx,.int .i64 now,.int .i64 vis,.int .i64 ep,.int .i64 lim] W (SLe W S' K 0))∨
  (S.lv=false∧∀ W,SR W W.heap.size S D→Calls Tryz.prog 15 #[sv S D,.int .i64 mx,.int .i64 now,.int .i64 vis,.int .i64 ep,.int .i64 lim] W (SLe W zS [] 7)):=by
 rcases hS with ⟨V,k,rfl⟩ | ⟨k,k1,k2,rfl⟩
 ·left
  have hB':=hB
  unfold tkB at hB'
  simp only [Bool.and_eq_true] at hB'
  have m:=wi_of hB'.2.2.2.2
  have li:=wi_of hB'.2.2.2.1
  have n:=wi_of hB'.1
  have v:=wi_of hB'.2.1
  clear hB'
  obtain ⟨m',hm⟩:=Int.eq_ofNat_of_zero_le (show 0≤mx by omega)
  have hm:mx=(m' : Int):=hm
  subst hm
  obtain ⟨k3,-⟩:=take_facts (mx:=m') (ep:=ep) (dl:=now+vis) k li.2 (by omega) hdl
  have hr:=k3.room
  have hn:=k3.n2
  have hc:(V.take m' (fun M=>rvF M ep lim) (now+vis)).sh.cs.length=(V.take m' (fun M=>rvF M ep lim) (now+vis)).n:=fil_len _ _ _
  refine ⟨(V.take m' (fun M=>rvF M ep lim) (now+vis)).sh,lzF (now+vis) (pk m' (fun M=>rvF M ep lim) V.L).1,rfl,⟨by rw [hc];exact k3.n1,by omega,?_,?_⟩,?_,fun j h=>?_,fun W h=>stake_ok V k D m' now vis ep lim W h hB hdl⟩
  ·have:=k3.tb.len;show (V.take m' (fun M=>rvF M ep lim) (now+vis)).l.length≤1000;omega
  ·have:=k3.tb.hlen;have:=k3.tb.len;show (V.take m' (fun M=>rvF M ep lim) (now+vis)).h.length≤1000;omega
  ·unfold lzF
   rw [List.length_map]
   have h1:=(pk_sub m' (fun M=>rvF M ep lim) V.L).2.1.length_le
   have:=k.lenL
   have:=k.n2
   omega
  ·have hj:j<(pk m' (fun M=>rvF M ep lim) V.L).1.length:=by simpa [lzF] using h
   have e:(lzF (now+vis) (pk m' (fun M=>rvF M ep lim) V.L).1)[j]=⟨dlM (pk m' (fun M=>rvF M ep lim) V.L).1[j],now+vis⟩:=by simp [lzF]
   rw [e]
   exact lv_ok k hB hdl (List.getElem_mem hj)
 ·right
  have e:tkE (frS k) mx now vis ep lim=7:=by
   unfold tkE
   rw [fr_ex k1 k2,if_pos (by decide)]
  refine ⟨rfl,fun W h=>?_⟩
  have g:=stake_bad (frS k) D mx now vis ep lim W h (by rw [e];decide)
  rw [e] at g
  exact g
/-- The numbers that were drawn lie in block d. -/
structure D5 (W:World) (d:Nat) (mx now vis ep lim:Int):Prop where
 c0:W.cell? ⟨d,0,none⟩=some (.int .i64 mx)
 c1:W.cell? ⟨d,1,none⟩=some (.int .i64 now)
 c2:W.cell? ⟨d,2,none⟩=some (.int .i64 vis)
 c3:W.cell? ⟨d,3,none⟩=some (.int .i64 ep)
 c4:W.cell? ⟨d,4,none⟩=some (.int .i64 lim)
 lt:d<W.heap.size
theorem D5.up {W W' : World} {d:Nat} {mx now vis ep lim:Int} (h:D5 W d mx now vis ep lim) (hb:Below W.heap.size W W'):D5 W' d mx now vis ep lim:=
 ⟨(hb.cell (p:=⟨d,0,none⟩) h.lt).trans h.c0,(hb.cell (p:=⟨d,1,none⟩) h.lt).trans h.c1,(hb.cell (p:=⟨d,2,none⟩) h.lt).trans h.c2,(hb.cell (p:=⟨d,3,none⟩) h.lt).trans h.c3,(hb.cell (p:=⟨d,4,none⟩) h.lt).trans h.c4,Nat.lt_of_lt_of_le h.lt hb.size⟩
theorem D5.start (w:World) (mx now vis ep lim a b c:Int) (t:TypeId):D5 (w.alloc (.cells #[.int .i64 mx,.int .i64 now,.int .i64 vis,.int .i64 ep,.int .i64 lim,.int .i64 a,.int .i64 b,.int .i64 c] t)) w.heap.size mx now vis ep lim:=
 ⟨by simp [go_sem],by simp [go_sem],by simp [go_sem],by simp [go_sem],by simp [go_sem],by simp⟩
/-- Block q holds a handle, and may be written. -/
def H4f (W:World) (q:Nat) (H:Hn):Prop:=H4 W q H∧∀ o,W.frozen? ⟨q,o,none⟩=false
theorem H4f.up {W W' : World} {q:Nat} {H:Hn} (h:H4f W q H) (hb:Below W.heap.size W W'):H4f W' q H:=⟨h.1.up hb,fun o=>(hb.frozen (p:=⟨q,o,none⟩) h.1.2.2.2.2).trans (h.2 o)⟩
theorem h4_drew {W:World} {q:Nat} {H:Hn} (h:H4f W q H):H4f W.drew q H:=h.up (Below.refl _ _).drew
theorem h4_new (w:World) (t:TypeId) (i g r:Int):H4f (w.alloc (.cells #[.int .i64 i,.int .i64 g,.int .i64 r,.int .i64 0] t)) w.heap.size ⟨i,g,r,0⟩:=
 ⟨H4.start w ⟨i,g,r,0⟩ t,fun o=>by simp [go_sem]⟩
theorem h4_two {W:World} {a z:Nat} {i g r x y:Int} (ha:H4 W a ⟨i,g,r,0⟩) (hz:H4 W z ⟨i,g,r,0⟩) (h1:¬a=z) (h2:¬z=a):H4 ((W.setCell ⟨a,1,none⟩ (.int .i64 x)).setCell ⟨z,2,none⟩ (.int .i64 y)) a ⟨i,x,r,0⟩∧H4 ((W.setCell ⟨a,1,none⟩ (.int .i64 x)).setCell ⟨z,2,none⟩ (.int .i64 y)) z ⟨i,g,y,0⟩:=by
 obtain ⟨a0,a1,a2,a3,al⟩:=ha
 obtain ⟨z0,z1,z2,z3,zl⟩:=hz
 simp only at a0 a1 a2 a3 z0 z1 z2 z3
 refine ⟨⟨?_,?_,?_,?_,?_⟩,⟨?_,?_,?_,?_,?_⟩⟩ <;> simp [go_sem,a0,a1,a2,a3,al,z0,z1,z2,z3,zl]
/-- What the loop keeps: the shard, the draw, what Take made of the shard, the leases. -/
structure LwAt (w:World) (p d s:Nat) (S T:Sh) (D E:Sx) (mx now vis ep lim:Int) (A:Option Addr) (c:Nat) (K:List Le) (W:World):Prop where
 sa:SAt w p S D W
 sb:SAt w s T E W
 d5:D5 W d mx now vis ep lim
 el:El W W.heap.size (.slice A K.length c) K
theorem LwAt.below {w W W' : World} {p d s c:Nat} {S T:Sh} {D E:Sx} {mx now vis ep lim:Int} {A:Option Addr} {K:List Le} (h:LwAt w p d s S T D E mx now vis ep lim A c K W) (hb:Below W.heap.size W W'):LwAt w p d s S T D E mx now vis ep lim A c K W':=
 ⟨h.sa.below hb,h.sb.below hb,h.d5.up hb,(h.el.below hb).more hb.size⟩
/-- What a round of the loop keeps: that, the handle, the older one, the newer one. -/
structure LuAt (w:World) (p d s q a z:Nat) (S T:Sh) (D E:Sx) (mx now vis ep lim i g r x y:Int) (A:Option Addr) (c:Nat) (K:List Le) (W:World):Prop where
 lw:LwAt w p d s S T D E mx now vis ep lim A c K W
 hq:H4 W q ⟨i,g,r,0⟩
 ha:H4 W a ⟨i,x,r,0⟩
 hz:H4 W z ⟨i,g,y,0⟩
theorem LuAt.below {w W W' : World} {p d s q a z c:Nat} {S T:Sh} {D E:Sx} {mx now vis ep lim i g r x y:Int} {A:Option Addr} {K:List Le} (h:LuAt w p d s q a z S T D E mx now vis ep lim i g r x y A c K W) (hb:Below W.heap.size W W'):LuAt w p d s q a z S T D E mx now vis ep lim i g r x y A c K W':=
 ⟨h.lw.below hb,h.hq.up hb,h.ha.up hb,h.hz.up hb⟩
/-- What Holds says as a contract. -/
theorem holds_is {w W:World} {s:Nat} {T:Sh} {E:Sx} (h:SAt w s T E W) {i g r now ep:Int} {b:Bool} (e:hoF T ⟨i,g,r,0⟩ now ep=b) :
  Calls Tryz.prog 23 #[sv T E,.agg #[.int .i64 i,.int .i64 g,.int .i64 r,.int .i64 0],.int .i64 now,.int .i64 ep] W fun e w'=>e=.returned (.bool b)∧Below W.heap.size W w':=by
 have k:=sholds_any T E ⟨i,g,r,0⟩ now ep W h.sr
 rw [e] at k
 exact k
theorem ack_is {w W:World} {s:Nat} {T:Sh} {E:Sx} (h:SAt w s T E W) (hz:T.sz4) {i g r now ep:Int} (e:heS T ⟨i,g,r,0⟩ now ep true=0) :
  Calls Tryz.prog 19 #[sv T E,.agg #[.int .i64 i,.int .i64 g,.int .i64 r,.int .i64 0],.int .i64 now,.int .i64 ep] W (SE W (akF T i) 0):=by
 have k:=sack_any T E ⟨i,g,r,0⟩ now ep W h.sr (fun _=>hz)
 rw [e,if_pos rfl] at k
 exact k
theorem nack_is {w W:World} {s:Nat} {T:Sh} {E:Sx} (h:SAt w s T E W) {i g r now ep lim:Int} (e:heS T ⟨i,g,r,0⟩ now ep (wi lim 1 8)=0) :
  Calls Tryz.prog 16 #[sv T E,.agg #[.int .i64 i,.int .i64 g,.int .i64 r,.int .i64 0],.int .i64 now,.int .i64 ep,.int .i64 lim] W (SE W (gbN T i lim) 0):=by
 have k:=snack_any T E ⟨i,g,r,0⟩ now ep lim W h.sr
 rw [e,if_pos rfl] at k
 exact k
/-- What is kept once Ack and Nack were tried. -/
structure LzAt (w:World) (p d s q a z u v:Nat) (S T F1 F2:Sh) (D E D3 D4:Sx) (mx now vis ep lim i g r x y:Int) (A:Option Addr) (c:Nat) (K:List Le) (W:World):Prop where
 lu:LuAt w p d s q a z S T D E mx now vis ep lim i g r x y A c K W
 s1:SAt w u F1 D3 W
 s2:SAt w v F2 D4 W
abbrev LzK (d s q u v:Nat) (T F1 F2:Sh) (E D3 D4:Sx) (now ep i g r:Int) (W:World):Prop:=K8 u F1 D3 W∧K8 v F2 D4 W∧K8 s T E W∧W.cell? ⟨q,0,none⟩=some (.int .i64 i)∧W.cell? ⟨q,1,none⟩=some (.int .i64 g)∧W.cell? ⟨q,2,none⟩=some (.int .i64 r)∧W.cell? ⟨q,3,none⟩=some (.int .i64 0)∧W.cell? ⟨d,1,none⟩=some (.int .i64 now)∧W.cell? ⟨d,3,none⟩=some (.int .i64 ep)
section
variable {w W W' : World} {p d s q a z u v c:Nat} {S T F1 F2:Sh} {D E D3 D4:Sx} {mx now vis ep lim i g r x y:Int} {A:Option Addr} {K:List Le}
theorem LzAt.below (h:LzAt w p d s q a z u v S T F1 F2 D E D3 D4 mx now vis ep lim i g r x y A c K W) (hb:Below W.heap.size W W'):LzAt w p d s q a z u v S T F1 F2 D E D3 D4 mx now vis ep lim i g r x y A c K W':=⟨h.lu.below hb,h.s1.below hb,h.s2.below hb⟩
theorem LzAt.k (h:LzAt w p d s q a z u v S T F1 F2 D E D3 D4 mx now vis ep lim i g r x y A c K W):LzK d s q u v T F1 F2 E D3 D4 now ep i g r W:=⟨h.s1.k8,h.s2.k8,h.lu.lw.sb.k8,h.lu.hq.1,h.lu.hq.2.1,h.lu.hq.2.2.1,h.lu.hq.2.2.2.1,h.lu.lw.d5.c1,h.lu.lw.d5.c3⟩
end
theorem st_is {w W:World} {s:Nat} {T:Sh} {E:Sx} (h:SAt w s T E W) {x:Int} (e:stF T=x) :
  Calls Tryz.prog 24 #[sv T E] W (VlT W x):=by
 have k:=sstored_any T E W h.sr
 rw [e] at k
 exact k
end Go.Proofs.YtncgbldcjfbknaaGreat
/- Plain: the sorted list of the IDs of messages, by insertion. -/
namespace Go.Proofs.YtncgbldcjfbknaaGreat
open Go.RowKit
set_option linter.unusedVariables false
/-- The place of x, from k downwards. -/
def insP (x:Int) (O:List Int):Nat→Nat
 | 0=>0
 | k+1=>if O.getD k 0 > x then insP x O k else k+1
theorem insP_le (x:Int) (O:List Int):∀ k,insP x O k≤k
 | 0=>Nat.le_refl _
 | k+1=>by unfold insP;split;exact Nat.le_succ_of_le (insP_le x O k);exact Nat.le_refl _
theorem insP_yes {x:Int} {O:List Int} {k:Nat} (hk:k<O.length) (h:O[k] > x):insP x O (k+1)=insP x O k:=by
 rw [insP,if_pos];simpa [List.getD,hk] using h
theorem insP_no {x:Int} {O:List Int} {k:Nat} (hk:k<O.length) (h:¬O[k] > x):insP x O (k+1)=k+1:=by
 rw [insP,if_neg];simpa [List.getD,hk] using h
theorem insP_hi {x:Int} {O:List Int}:∀ {k},k≤O.length→∀ j,insP x O k≤j→j<k→∀ h:j<O.length,O[j] > x
 | 0,_,j,_,hj,_=>by omega
 | k+1,hk,j,hi,hj,h=>by
  by_cases hx:O[k]'(by omega) > x
  ·rw [insP_yes (by omega) hx] at hi
   by_cases e:j=k
   ·subst e;exact hx
   ·exact insP_hi (by omega) j hi (by omega) h
  ·rw [insP_no (by omega) hx] at hi
   omega
theorem insP_lo {x:Int} {O:List Int}:∀ {k},k≤O.length→0<insP x O k→∀ h:insP x O k - 1<O.length,O[insP x O k - 1]≤x
 | 0,_,h0,_=>by simp [insP] at h0
 | k+1,hk,h0,h=>by
  by_cases hx:O[k]'(by omega) > x
  ·have e:=insP_yes (show k<O.length by omega) hx
   have:=insP_lo (x:=x) (O:=O) (k:=k) (by omega) (by rw [←e];exact h0) (by rw [←e];exact h)
   simp only [e]
   exact this
  ·have e:=insP_no (show k<O.length by omega) hx
   simp only [e,Nat.add_sub_cancel]
   omega
def insA (x:Int) (O:List Int):Nat:=insP x O O.length
theorem insA_le (x:Int) (O:List Int):insA x O≤O.length:=insP_le _ _ _
def insI (x:Int) (O:List Int):List Int:=O.take (insA x O)++[x]++O.drop (insA x O)
theorem insI_len (x:Int) (O:List Int):(insI x O).length=O.length+1:=by
 have:=insA_le x O
 unfold insI;simp;omega
theorem insI_perm (x:Int) (O:List Int):(insI x O).Perm (x::O):=by
 unfold insI
 refine (List.Perm.append_right _ (List.perm_append_comm)).trans ?_
 rw [List.append_assoc,List.take_append_drop]
 exact List.Perm.refl _
/-- In ascending order. -/
def SrtI (O:List Int):Prop:=O.Pairwise (·≤·)
theorem SrtI.get {O:List Int} (h:SrtI O) {i j:Nat} (hj:j<O.length) (hij:i≤j):O[i]≤O[j]:=by
 rcases Nat.lt_or_eq_of_le hij with h1 | h1
 ·exact List.pairwise_iff_getElem.1 h i j (by omega) hj h1
 ·subst h1;exact Int.le_refl _
theorem insI_srt {x:Int} {O:List Int} (h:SrtI O):SrtI (insI x O):=by
 have ha:=insA_le x O
 have hlo:∀ a∈O.take (insA x O),a≤x:=by
  intro a hm
  obtain ⟨i,hi,rfl⟩:=List.getElem_of_mem hm
  have hi' : i<insA x O:=by simp at hi;omega
  rw [List.getElem_take]
  have h1:=insP_lo (x:=x) (O:=O) (Nat.le_refl _) (show 0<insP x O O.length by unfold insA at hi';omega) (by unfold insA at hi' ha;omega)
  have h2:=h.get (i:=i) (j:=insP x O O.length - 1) (by unfold insA at hi' ha;omega) (by unfold insA at hi';omega)
  omega
 have hhi:∀ a∈O.drop (insA x O),x≤a:=by
  intro a hm
  obtain ⟨i,hi,rfl⟩:=List.getElem_of_mem hm
  rw [List.getElem_drop]
  have:=insP_hi (x:=x) (O:=O) (Nat.le_refl _) (insA x O+i) (by unfold insA;omega) (by simp at hi;omega) (by simp at hi;omega)
  omega
 unfold SrtI insI
 rw [List.append_assoc,List.pairwise_append]
 refine ⟨h.sublist (List.take_sublist _ _),?_,?_⟩
 ·rw [List.singleton_append,List.pairwise_cons]
  exact ⟨hhi,h.sublist (List.drop_sublist _ _)⟩
 ·intro a hm b hb
  have h1:=hlo a hm
  rcases List.mem_cons.1 (by simpa using hb) with rfl | hb
  ·exact h1
  ·exact Int.le_trans h1 (hhi b hb)
theorem srt_eq:∀ {a b:List Int},SrtI a→SrtI b→a.Perm b→a=b
 | [],b,_,_,hp=>(List.Perm.nil_eq hp)
 | x::a,[],_,_,hp=>by have:=hp.length_eq;simp at this
 | x::a,y::b,ha,hb,hp=>by
  have ha':=List.pairwise_cons.1 ha
  have hb':=List.pairwise_cons.1 hb
  have h1:x≤y:=by
   rcases List.mem_cons.1 (hp.symm.subset (List.mem_cons_self ..)) with h | h
   ·omega
   ·exact ha'.1 _ h
  have h2:y≤x:=by
   rcases List.mem_cons.1 (hp.subset (List.mem_cons_self ..)) with h | h
   ·omega
   ·exact hb'.1 _ h
  obtain rfl:x=y:=by omega
  rw [srt_eq (a:=a) (b:=b) ha'.2 hb'.2 ((List.perm_cons x).1 hp)]
/-- The IDs of messages in ascending order. -/
def idsG (O:List Int) (L:List Msg):List Int:=L.foldl (fun o M=>insI M.id o) O
def idsF (L:List Msg):List Int:=idsG [] L
theorem idsF_snoc {L:List Msg} {k:Nat} (h:k<L.length):idsF (L.take (k+1))=insI L[k].id (idsF (L.take k)):=by
 unfold idsF idsG
 rw [←List.take_append_getElem h,List.foldl_append]
 rfl
theorem idsG_perm (L:List Msg):∀ O,(idsG O L).Perm (L.map Msg.id++O):=by
 induction L with
 | nil=>intro O;exact List.Perm.refl _
 | cons M L ih=>
  intro O
  refine (ih (insI M.id O)).trans ?_
  refine (List.Perm.append_left _ (insI_perm M.id O)).trans ?_
  simp only [List.map_cons,List.cons_append]
  exact List.perm_middle
theorem idsG_srt (L:List Msg):∀ O,SrtI O→SrtI (idsG O L):=by
 induction L with
 | nil=>intro O h;exact h
 | cons M L ih=>intro O h;exact ih _ (insI_srt h)
theorem idsF_perm (L:List Msg):(idsF L).Perm (L.map Msg.id):=by have:=idsG_perm L [];simpa [idsF] using this
theorem idsF_srt (L:List Msg):SrtI (idsF L):=idsG_srt L [] List.Pairwise.nil
theorem idsF_len (L:List Msg):(idsF L).length=L.length:=by rw [(idsF_perm L).length_eq,List.length_map]
/-- The same messages give the same list. -/
theorem idsF_same {L L' : List Msg} (h:(L.map Msg.id).Perm (L'.map Msg.id)):idsF L=idsF L':=srt_eq (idsF_srt L) (idsF_srt L') ((idsF_perm L).trans (h.trans (idsF_perm L').symm))
/-- One message more: its ID at one place. -/
theorem idsF_one {L L' : List Msg} {x:Int} (h:(L.map Msg.id).Perm (x::L'.map Msg.id)):idsF L=insI x (idsF L'):=
 srt_eq (idsF_srt L) (insI_srt (idsF_srt L')) ((idsF_perm L).trans (h.trans ((List.Perm.cons x (idsF_perm L')).symm.trans (insI_perm x _).symm)))
theorem insI_at {x:Int} {O:List Int} {j:Nat} (hj:j<(insI x O).length):(∃ h:j<O.length,j<insA x O∧(insI x O)[j]=O[j])∨(j=insA x O∧(insI x O)[j]=x)∨(∃ h:j - 1<O.length,insA x O<j∧(insI x O)[j]=O[j - 1]):=by
 have ha:=insA_le x O
 have hl:=insI_len x O
 rcases Nat.lt_trichotomy j (insA x O) with h | h | h
 ·left
  refine ⟨by omega,h,?_⟩
  simp only [insI]
  rw [List.getElem_append_left (by simp;omega),List.getElem_append_left (by simp;omega),List.getElem_take]
 ·right;left
  refine ⟨h,?_⟩
  simp only [insI]
  rw [List.getElem_append_left (by simp;omega),List.getElem_append_right (by simp;omega)]
  simp
 ·right;right
  refine ⟨by omega,h,?_⟩
  simp only [insI]
  rw [List.getElem_append_right (by simp;omega),List.getElem_drop]
  congr 1
  simp
  omega
end Go.Proofs.YtncgbldcjfbknaaGreat
namespace Go.Proofs.YtncgbldcjfbknaaGreat
open Go.RowKit
set_option linter.unusedVariables false
/-- What Change makes of a shard. -/
noncomputable def chgF (S:Sh) (id dl:Int):Sh:=⟨S.lv,S.lo,S.hi,S.cs,S.hd,S.sz,exL S.l S.h id dl,exH S.l S.h id dl⟩
/-- The first error of Change. -/
noncomputable def chgE (S:Sh) (H:Hn) (now ep vis:Int):Int:=if heS S H now ep (wi vis 0 1000)≠0 then heS S H now ep (wi vis 0 1000) else if 1073741824<now+vis then 6 else 0
theorem he_nums {S:Sh} {H:Hn} {now ep:Int} {b:Bool} (h:heS S H now ep b=0):b=true∧(0≤now∧now≤1073741824)∧(0≤ep∧ep≤65536)∧exS S true=0:=by
 unfold heS at h
 by_cases h0:exS S (b&&(wi now 0 1073741824&&wi ep 0 65536))=0
 ·obtain ⟨h1,h2,h3⟩:=exS_zero h0
  rw [Bool.and_eq_true,Bool.and_eq_true] at h3
  exact ⟨h3.1,wi_of h3.2.1,wi_of h3.2.2,exS_ok h1 h2 rfl⟩
 ·rw [if_pos h0] at h;exact absurd h h0
abbrev ChK (p q:Nat) (S:Sh) (D:Sx) (H:Hn) (W:World):Prop:=K8 p S D W∧W.cell? ⟨q,0,none⟩=some (.int .i64 H.id)∧W.cell? ⟨q,1,none⟩=some (.int .i64 H.gn)∧W.cell? ⟨q,2,none⟩=some (.int .i64 H.rt)∧W.cell? ⟨q,3,none⟩=some (.int .i64 H.ht)
theorem ChK.mk {p q:Nat} {S:Sh} {D:Sx} {H:Hn} {W:World} (h:K8 p S D W) (k:H4 W q H):ChK p q S D H W:=⟨h,k.1,k.2.1,k.2.2.1,k.2.2.2.1⟩
set_option maxHeartbeats 8000000 in
set_option maxRecDepth 20000 in
theorem schange_any (S:Sh) (D:Sx) (H:Hn) (now ep vis:Int) (w:World) (hs:SR w w.heap.size S D) (hn:heS S H now ep (wi vis 0 1000)=0→S.sz4) :
  Calls Tryz.prog 17 #[sv S D,H.v,.int .i64 now,.int .i64 ep,.int .i64 vis] w (SE w (if chgE S H now ep vis=0 then chgF S H.id (now+vis) else zS) (chgE S H now ep vis)):=by
 have e1:(w.alloc (.cells #[.bool S.lv,.int .i64 S.lo,.int .i64 S.hi,.slice D.A S.cs.length D.c,.int .i64 S.hd,.int .i64 S.sz,.slice D.A2 S.l.length D.c2,.slice D.A3 S.h.length D.c3] 33)).heap.size=w.heap.size+1:=by simp
 have e2:((w.alloc (.cells #[.bool S.lv,.int .i64 S.lo,.int .i64 S.hi,.slice D.A S.cs.length D.c,.int .i64 S.hd,.int .i64 S.sz,.slice D.A2 S.l.length D.c2,.slice D.A3 S.h.length D.c3] 33)).alloc (.cells #[.int .i64 H.id,.int .i64 H.gn,.int .i64 H.rt,.int .i64 H.ht] 40)).heap.size=w.heap.size+1+1:=by simp
 have H0:=Lh (((SAt.start 33 hs).alloc (.cells #[.int .i64 H.id,.int .i64 H.gn,.int .i64 H.rt,.int .i64 H.ht] 40)).alloc (.cells #[.bool false,.int .i64 0,.int .i64 0,.slice none 0 0,.int .i64 0,.int .i64 0,.slice none 0 0,.slice none 0 0] 33))
 have Q0:=Lh ((H4.start (w.alloc (.cells #[.bool S.lv,.int .i64 S.lo,.int .i64 S.hi,.slice D.A S.cs.length D.c,.int .i64 S.hd,.int .i64 S.sz,.slice D.A2 S.l.length D.c2,.slice D.A3 S.h.length D.c3] 33)) H 40).up ((Below.refl _ _).alloc (Nat.le_refl _) (.cells #[.bool false,.int .i64 0,.int .i64 0,.slice none 0 0,.int .i64 0,.int .i64 0,.slice none 0 0,.slice none 0 0] 33)))
 have R0:=Lh (SB8.zero ((w.alloc (.cells #[.bool S.lv,.int .i64 S.lo,.int .i64 S.hi,.slice D.A S.cs.length D.c,.int .i64 S.hd,.int .i64 S.sz,.slice D.A2 S.l.length D.c2,.slice D.A3 S.h.length D.c3] 33)).alloc (.cells #[.int .i64 H.id,.int .i64 H.gn,.int .i64 H.rt,.int .i64 H.ht] 40)) 33)
 rw [e1] at Q0
 rw [e2] at R0
 have HHE:=Lh (fun A p W (k:SAt w p S D W) (hn:Nl W W.heap.size (.slice (some A) 1 1) [⟨vis,0,1000⟩])=>(show Calls Tryz.prog 50 #[sv S D,H.v,.int .i64 now,.int .i64 ep,.slice (some A) 1 1] W (VlT W (heS S H now ep (wi vis 0 1000))) from by
  have h:=sherr_any S D H now ep (some A) [⟨vis,0,1000⟩] W k.sr hn (fun h=>by cases h) (by simp)
  have he:([⟨vis,0,1000⟩]:List Rn).all Rn.ok=wi vis 0 1000:=by simp [Rn.ok]
  rw [he] at h
  exact h))
 have HNM:=Lh (fun h=>he_nums (S:=S) (H:=H) (now:=now) (ep:=ep) (b:=wi vis 0 1000) h)
 have HY0:Hid (chgE S H now ep vis=if heS S H now ep (wi vis 0 1000)≠0 then heS S H now ep (wi vis 0 1000) else if 1073741824<now+vis then 6 else 0):=Lh rfl
 obtain ⟨y,hy⟩:∃ y,y=chgE S H now ep vis:=⟨_,rfl⟩
 rw [←hy] at HY0
 rw [←hy]
 clear hy
 obtain ⟨x,hx⟩:∃ x,x=heS S H now ep (wi vis 0 1000):=⟨_,rfl⟩
 rw [←hx] at HHE hn HNM HY0
 have HL:=Lh (fun W=>avis_any vis W)
 have HCL:=Lh (fun (h:x=0) p W (q:SAt w p S D W)=>sclone_any S D W q.sr (hn h).1 (hn h).2.1 (hn h).2.2.1 (hn h).2.2.2)
 have HRL:=Lh (fun p D W (q:SAt w p S D W)=>lextend_any D.A2 S.l.length D.c2 S.l D.A3 S.h.length D.c3 S.h H.id (now+vis) W q.sr.el q.sr.dl)
 obtain ⟨T,hT⟩:∃ T,T=chgF S H.id (now+vis):=⟨_,rfl⟩
 obtain ⟨U,hU⟩:∃ U,U=if y=0 then chgF S H.id (now+vis) else zS:=⟨_,rfl⟩
 have HUU:=Lh (show U=if y=0 then T else zS from by rw [hU,hT])
 have HTT:=Lh (show T=⟨S.lv,S.lo,S.hi,S.cs,S.hd,S.sz,exL S.l S.h H.id (now+vis),exH S.l S.h H.id (now+vis)⟩ from hT)
 rw [←hU]
 clear hU hT hs hn hx
 generalize exL S.l S.h H.id (now+vis)=gl at*
 generalize exH S.l S.h H.id (now+vis)=gh at*
 generalize exE S.l S.h H.id (now+vis)=rE at*
 go_enter Tryz.func17,Tryz.ntmps17
 obtain ⟨p,hp⟩:∃ p,p=w.heap.size:=⟨_,rfl⟩
 obtain ⟨q,hq⟩:∃ q,q=w.heap.size+1:=⟨_,rfl⟩
 obtain ⟨r,hr⟩:∃ r,r=w.heap.size+1+1:=⟨_,rfl⟩
 have HPR:=Lh (show (¬p=r∧¬r=p∧¬p=q∧¬q=p)∧w.heap.size≤p∧p<q∧q<r by omega)
 go_upto_region 1 with (fail)
 rw [←hr,←hq,←hp]
 rw [←hr] at R0
 rw [←hq] at Q0
 rw [←hp] at H0
 clear e1 e2 hp hq hr
 generalize (((w.alloc (.cells #[.bool S.lv,.int .i64 S.lo,.int .i64 S.hi,.slice D.A S.cs.length D.c,.int .i64 S.hd,.int .i64 S.sz,.slice D.A2 S.l.length D.c2,.slice D.A3 S.h.length D.c3] 33)).alloc (.cells #[.int .i64 H.id,.int .i64 H.gn,.int .i64 H.rt,.int .i64 H.ht] 40)).alloc (.cells #[.bool false,.int .i64 0,.int .i64 0,.slice none 0 0,.int .i64 0,.int .i64 0,.slice none 0 0,.slice none 0 0] 33))=w1 at*
 have HD:=Lh H0.out.drew
 have QD:=Lh (Q0.out.up ((Below.refl _ _).drew))
 have RD:=Lh (R0.out.up ((Below.refl _ _).drew))
 have HT0:=Lh (show ChK p q S D H w1.drew from ChK.mk HD.out.k8 QD.out)
 go_region_held3 (fun W=>ChK p q S D H W)
  (first | with_reducible exact HT0.out | with_reducible exact HT1.out | with_reducible exact HT2.out | with_reducible exact HT3.out)
  (first
  | (go_at_call 42;(with_reducible refine (HL.out _).mono ?_);rintro e w3 ⟨rfl,hb⟩;have HA2:=Lh ((HD.out.below hb).alloc (.cells #[.int .i64 vis,.int .i64 0,.int .i64 1000] 82));have HB3:=Lh (hb.trans ((((Below.refl w3.heap.size w3).alloc (Nat.le_refl _) (.cells #[.int .i64 vis,.int .i64 0,.int .i64 1000] 82))).mono hb.size));have Q2:=Lh (QD.out.up HB3.out);have R2:=Lh (RD.out.up HB3.out);have HT1:=Lh (show ChK p q S D H w3 from ChK.mk (HD.out.below hb).k8 (QD.out.up hb));have HT2:=Lh (show ChK p q S D H (w3.alloc (.cells #[.int .i64 vis,.int .i64 0,.int .i64 1000] 82)) from ChK.mk HA2.out.k8 Q2.out);have HNL:=Lh (nl_one w3 ⟨vis,0,1000⟩ 82);clear hb)
  | (go_at_call 50;(with_reducible refine (HHE.out _ _ _ HA2.out ?_).mono ?_);(have:=HNL.out;simpa using this);rintro e w2 ⟨rfl,hb⟩;have H1:=Lh (HA2.out.below hb);have Q1:=Lh (Q2.out.up hb);have R1:=Lh (R2.out.up hb);have HT3:=Lh (show ChK p q S D H w2 from ChK.mk H1.out.k8 Q1.out);clear hb))
 clear HD QD RD HT0 HT1 HT2 HT3 HA2 HNL HL HHE H0 R0 R2 Q0 Q2 HB3
 by_cases hx:x=0
 ·have HX:=Lh hx
  obtain ⟨hvb,⟨nn1,nn2⟩,-,-⟩:=HNM.out hx
  have hvi:=wi_of hvb
  have hwr:wrap64 (now+vis)=now+vis:=IntWalk.wrap64_in _ (by omega)
  have HWR:=Lh hwr
  subst hx
  by_cases hdl:1073741824<now+vis
  ·have HYY:=Lh (show y=6 by rw [HY0.out,if_neg (by simp),if_pos hdl])
   have HF:=Lh (show SE w U y (.returned (.tuple #[.agg #[.bool false,.int .i64 0,.int .i64 0,.slice none 0 0,.int .i64 0,.int .i64 0,.slice none 0 0,.slice none 0 0],.int .i64 6])) (z8 w2 r) from by
    rw [HUU.out,HYY.out,if_neg (by decide)]
    have hne:=HPR.out.2
    exact se_zero (by omega) H1.out.bel)
   clear hwr
   obtain ⟨⟨r0,r1,r2,r3,r4,r5,r6,r7,rl⟩,⟨g0,g1,g2,g3,g4,g5,g6,g7⟩⟩:=R1.out.all
   go_wp2
   exact bodyPost_ret (v:=.tuple #[.agg #[.bool false,.int .i64 0,.int .i64 0,.slice none 0 0,.int .i64 0,.int .i64 0,.slice none 0 0,.slice none 0 0],.int .i64 6]) (by simp only [results,Tryz.results17];go_simp <;> rfl) rfl HF.out
  ·have HYY:=Lh (show y=0 by rw [HY0.out,if_neg (by simp),if_neg hdl])
   clear hwr
   obtain ⟨t0,t1,t2,t3,t4,t5,t6,t7,tl⟩:=H1.out.s8.facts
   go_wp2_with fail
   clear t0 t1 t2 t3 t4 t5 t6 t7 tl
   refine (HCL.out (by first | trivial | rfl) _ _ H1.out).mono ?_
   rintro e w3 ⟨D2,rfl,hn2,hr2,hb⟩
   have H2:=Lh (H1.out.below hb)
   have H3:=Lh (show SAt w p S D2 ((((((((w3.setCell ⟨p,0,none⟩ (.bool S.lv)).setCell ⟨p,1,none⟩ (.int .i64 S.lo)).setCell ⟨p,2,none⟩ (.int .i64 S.hi)).setCell ⟨p,3,none⟩ (.slice D2.A S.cs.length D2.c)).setCell ⟨p,4,none⟩ (.int .i64 S.hd)).setCell ⟨p,5,none⟩ (.int .i64 S.sz)).setCell ⟨p,6,none⟩ (.slice D2.A2 S.l.length D2.c2)).setCell ⟨p,7,none⟩ (.slice D2.A3 S.h.length D2.c3)) from H2.out.put hr2 (hn2.off H1.out.lt))
   have Q2:=Lh (Q1.out.up hb)
   have R3:=Lh (show SB8 ((((((((w3.setCell ⟨p,0,none⟩ (.bool S.lv)).setCell ⟨p,1,none⟩ (.int .i64 S.lo)).setCell ⟨p,2,none⟩ (.int .i64 S.hi)).setCell ⟨p,3,none⟩ (.slice D2.A S.cs.length D2.c)).setCell ⟨p,4,none⟩ (.int .i64 S.hd)).setCell ⟨p,5,none⟩ (.int .i64 S.sz)).setCell ⟨p,6,none⟩ (.slice D2.A2 S.l.length D2.c2)).setCell ⟨p,7,none⟩ (.slice D2.A3 S.h.length D2.c3)) r zS zX from (R1.out.up hb).put_far HPR.out.1.2.1 S D2)
   have N2:=Lh (show D2.nw (r+1) from hn2.low R1.out.lt)
   clear hn2 hr2 hb
   obtain ⟨⟨t0,t1,t2,t3,t4,t5,t6,t7,tl⟩,⟨f0,f1,f2,f3,f4,f5,f6,f7⟩⟩:=H2.out.s8.all
   obtain ⟨q0,q1,q2,q3,ql⟩:=Q2.out
   obtain ⟨⟨hpr,hrp,hpq,hqp⟩,-,-,-⟩:=HPR.out
   go_wp2_with fail
   clear t0 t1 t2 t3 t4 t5 t6 t7 tl f0 f1 f2 f3 f4 f5 f6 f7 q0 q1 q2 q3 ql hpr hrp hpq hqp H2 Q2 H1 Q1 R1
   generalize ((((((((w3.setCell ⟨p,0,none⟩ (.bool S.lv)).setCell ⟨p,1,none⟩ (.int .i64 S.lo)).setCell ⟨p,2,none⟩ (.int .i64 S.hi)).setCell ⟨p,3,none⟩ (.slice D2.A S.cs.length D2.c)).setCell ⟨p,4,none⟩ (.int .i64 S.hd)).setCell ⟨p,5,none⟩ (.int .i64 S.sz)).setCell ⟨p,6,none⟩ (.slice D2.A2 S.l.length D2.c2)).setCell ⟨p,7,none⟩ (.slice D2.A3 S.h.length D2.c3))=w3' at*
   refine (HRL.out _ _ _ H3.out).mono ?_
   rintro e w4 ⟨A3,c3,A4,c4,rfl,n3,n4,h3,h4,hb⟩
   have H4:=Lh (H3.out.below hb)
   have R4:=Lh (R3.out.up hb)
   have H5:=Lh (show SAt w p ⟨S.lv,S.lo,S.hi,S.cs,S.hd,S.sz,gl,gh⟩ ⟨D2.A,D2.c,A3,c3,A4,c4⟩ (((w4.setCell ⟨p,6,none⟩ (.slice A3 gl.length c3)).setCell ⟨p,7,none⟩ (.slice A4 gh.length c4))) from H4.out.setTab h3 h4 (offb_nw n3 H3.out.lt) (offb_nw n4 H3.out.lt))
   have N5:=Lh (show Nw (r+1) A3∧Nw (r+1) A4 from ⟨nw_low n3 R3.out.lt,nw_low n4 R3.out.lt⟩)
   clear n3 n4 h3 h4 hb
   have HF:=Lh (show SE w U y (.returned (.tuple #[.agg #[.bool S.lv,.int .i64 S.lo,.int .i64 S.hi,.slice D2.A S.cs.length D2.c,.int .i64 S.hd,.int .i64 S.sz,.slice A3 gl.length c3,.slice A4 gh.length c4],.int .i64 0])) (((((((((((w4.setCell ⟨p,6,none⟩ (.slice A3 gl.length c3)).setCell ⟨p,7,none⟩ (.slice A4 gh.length c4))).setCell ⟨r,0,none⟩ (.bool S.lv)).setCell ⟨r,1,none⟩ (.int .i64 S.lo)).setCell ⟨r,2,none⟩ (.int .i64 S.hi)).setCell ⟨r,3,none⟩ (.slice D2.A S.cs.length D2.c)).setCell ⟨r,4,none⟩ (.int .i64 S.hd)).setCell ⟨r,5,none⟩ (.int .i64 S.sz)).setCell ⟨r,6,none⟩ (.slice A3 gl.length c3)).setCell ⟨r,7,none⟩ (.slice A4 gh.length c4)) from by
    rw [HUU.out,if_pos HYY.out,HTT.out,HYY.out]
    have hne:=HPR.out.2
    exact ⟨⟨D2.A,D2.c,A3,c3,A4,c4⟩,rfl,⟨(N2.out.low (show w.heap.size≤r+1 by omega)).1,nw_low N5.out.1 (by omega),nw_low N5.out.2 (by omega)⟩,SR.sets (S:=⟨S.lv,S.lo,S.hi,S.cs,S.hd,S.sz,gl,gh⟩) (D:=⟨D2.A,D2.c,A3,c3,A4,c4⟩) ⟨(N2.out.off (Nat.lt_succ_self r)).o1,offb_nw N5.out.1 (Nat.lt_succ_self r),offb_nw N5.out.2 (Nat.lt_succ_self r)⟩ (Sh.l8 ⟨S.lv,S.lo,S.hi,S.cs,S.hd,S.sz,gl,gh⟩ ⟨D2.A,D2.c,A3,c3,A4,c4⟩) 0 _ H5.out.sr,set8s_below (show w.heap.size≤r by omega) H5.out.bel ⟨S.lv,S.lo,S.hi,S.cs,S.hd,S.sz,gl,gh⟩ ⟨D2.A,D2.c,A3,c3,A4,c4⟩⟩)
   obtain ⟨⟨t0,t1,t2,t3,t4,t5,t6,t7,tl⟩,⟨f0,f1,f2,f3,f4,f5,f6,f7⟩⟩:=H4.out.s8.all
   obtain ⟨⟨r0,r1,r2,r3,r4,r5,r6,r7,rl⟩,⟨g0,g1,g2,g3,g4,g5,g6,g7⟩⟩:=R4.out.all
   obtain ⟨⟨hpr,hrp,hpq,hqp⟩,-,-,-⟩:=HPR.out
   go_wp2
   exact bodyPost_ret (v:=.tuple #[.agg #[.bool S.lv,.int .i64 S.lo,.int .i64 S.hi,.slice D2.A S.cs.length D2.c,.int .i64 S.hd,.int .i64 S.sz,.slice A3 gl.length c3,.slice A4 gh.length c4],.int .i64 0]) (by simp only [results,Tryz.results17];go_simp <;> rfl) rfl HF.out
 ·have hne:(x != 0)=true:=bne_iff_ne.2 hx
  have HYY:=Lh (show y=x by rw [HY0.out,if_pos hx])
  have HF:=Lh (show SE w U y (.returned (.tuple #[.agg #[.bool false,.int .i64 0,.int .i64 0,.slice none 0 0,.int .i64 0,.int .i64 0,.slice none 0 0,.slice none 0 0],.int .i64 x])) (z8 w2 r) from by
   rw [HUU.out,HYY.out,if_neg hx]
   have hne:=HPR.out.2
   exact se_zero (by omega) H1.out.bel)
  clear hx
  obtain ⟨⟨r0,r1,r2,r3,r4,r5,r6,r7,rl⟩,⟨g0,g1,g2,g3,g4,g5,g6,g7⟩⟩:=R1.out.all
  go_wp2
  exact bodyPost_ret (v:=.tuple #[.agg #[.bool false,.int .i64 0,.int .i64 0,.slice none 0 0,.int .i64 0,.int .i64 0,.slice none 0 0,.slice none 0 0],.int .i64 x]) (by simp only [results,Tryz.results17];go_simp <;> rfl) rfl HF.out
set_option maxHeartbeats 8000000 in
set_option maxRecDepth 20000 in
theorem sexp_bad (S:Sh) (D:Sx) (now ep lim:Int) (w:World) (hs:SR w w.heap.size S D) (hE:exS S (xpB now ep lim)≠0) :
  Calls Tryz.prog 18 #[sv S D,.int .i64 now,.int .i64 ep,.int .i64 lim] w (SIe w zS [] (exS S (xpB now ep lim))):=by
 have HV:=Lh (fun A c p W (q:SAt w p S D W) (hn:Nl W W.heap.size (.slice A 3 c) [⟨now,0,1073741824⟩,⟨ep,0,65536⟩,⟨lim,1,8⟩])=>sexam_any S D A 3 c [⟨now,0,1073741824⟩,⟨ep,0,65536⟩,⟨lim,1,8⟩] W q.sr hn)
 have HE:([⟨now,0,1073741824⟩,⟨ep,0,65536⟩,⟨lim,1,8⟩]:List Rn).all Rn.ok=xpB now ep lim:=by simp [Rn.ok,xpB]
 rw [HE] at HV
 have H0:=Lh ((SAt.start 33 hs).alloc (.cells #[.bool false,.int .i64 0,.int .i64 0,.slice none 0 0,.int .i64 0,.int .i64 0,.slice none 0 0,.slice none 0 0] 33))
 have R0:=Lh (SB8.zero (w.alloc (.cells #[.bool S.lv,.int .i64 S.lo,.int .i64 S.hi,.slice D.A S.cs.length D.c,.int .i64 S.hd,.int .i64 S.sz,.slice D.A2 S.l.length D.c2,.slice D.A3 S.h.length D.c3] 33)) 33)
 clear HE hs
 have hne:(exS S (xpB now ep lim) != 0)=true:=bne_iff_ne.2 hE
 clear hE
 generalize exS S (xpB now ep lim)=z at*
 have HT:=Lh (fun W=>atime_any now W)
 have HP:=Lh (fun W=>aepoch_any ep W)
 have HL:=Lh (fun W=>alimit_any lim W)
 go_enter Tryz.func18,Tryz.ntmps18
 obtain ⟨p,hp⟩:∃ p,p=w.heap.size:=⟨_,rfl⟩
 obtain ⟨r,hr⟩:∃ r,r=w.heap.size+1:=⟨_,rfl⟩
 have e1:(w.alloc (.cells #[.bool S.lv,.int .i64 S.lo,.int .i64 S.hi,.slice D.A S.cs.length D.c,.int .i64 S.hd,.int .i64 S.sz,.slice D.A2 S.l.length D.c2,.slice D.A3 S.h.length D.c3] 33)).heap.size=r:=by rw [hr];simp
 rw [e1] at R0
 have HPR:=Lh (show ¬p=r∧¬r=p∧w.heap.size≤p∧p<r by omega)
 go_upto_region 1 with (fail)
 rw [←hr,←hp]
 rw [←hp] at H0
 clear e1 hp hr
 generalize ((w.alloc (.cells #[.bool S.lv,.int .i64 S.lo,.int .i64 S.hi,.slice D.A S.cs.length D.c,.int .i64 S.hd,.int .i64 S.sz,.slice D.A2 S.l.length D.c2,.slice D.A3 S.h.length D.c3] 33)).alloc (.cells #[.bool false,.int .i64 0,.int .i64 0,.slice none 0 0,.int .i64 0,.int .i64 0,.slice none 0 0,.slice none 0 0] 33))=w1 at*
 have HD:=Lh H0.out.drew
 have R1:=Lh (R0.out.up ((Below.refl _ _).drew))
 have HT0:=Lh (show K8 p S D w1.drew from HD.out.k8)
 go_region_held3 (fun W=>K8 p S D W)
  (first | with_reducible exact HT0.out | with_reducible exact HT1.out | with_reducible exact HT2.out | with_reducible exact HT3.out | with_reducible exact HT4.out | with_reducible exact HT5.out)
  (first
  | (go_at_call 41;(with_reducible refine (HT.out _).mono ?_);rintro e w2 ⟨rfl,hb⟩;have HA1:=Lh (HD.out.below hb);have R2:=Lh (R1.out.up hb);have HT1:=Lh HA1.out.k8;clear hb)
  | (go_at_call 43;(with_reducible refine (HP.out _).mono ?_);rintro e w3 ⟨rfl,hb⟩;have HA2:=Lh (HA1.out.below hb);have R3:=Lh (R2.out.up hb);have HT2:=Lh HA2.out.k8;clear hb)
  | (go_at_call 44;(with_reducible refine (HL.out _).mono ?_);rintro e w4 ⟨rfl,hb⟩;have HA3:=Lh (HA2.out.below hb);have HT3:=Lh HA3.out.k8;have HA4:=Lh (HA3.out.alloc (.cells #[.int .i64 now,.int .i64 0,.int .i64 1073741824,.int .i64 ep,.int .i64 0,.int .i64 65536,.int .i64 lim,.int .i64 1,.int .i64 8] 82));have R4:=Lh ((R3.out.up hb).up ((Below.refl _ _).alloc (Nat.le_refl _) (.cells #[.int .i64 now,.int .i64 0,.int .i64 1073741824,.int .i64 ep,.int .i64 0,.int .i64 65536,.int .i64 lim,.int .i64 1,.int .i64 8] 82)));have HT4:=Lh HA4.out.k8;have HNL:=Lh (nl_three w4 ⟨now,0,1073741824⟩ ⟨ep,0,65536⟩ ⟨lim,1,8⟩ 82);clear hb)
  | (go_at_call 40;(with_reducible refine (HV.out _ _ _ _ HA4.out ?_).mono ?_);(have:=HNL.out;simpa using this);rintro e w5 ⟨rfl,hb⟩;have HA5:=Lh (HA4.out.below hb);have R5:=Lh (R4.out.up hb);have HT5:=Lh HA5.out.k8;clear hb))
 obtain ⟨⟨r0,r1,r2,r3,r4,r5,r6,r7,rl⟩,⟨g0,g1,g2,g3,g4,g5,g6,g7⟩⟩:=R5.out.all
 have HF:=Lh (show SIe w zS [] z (.returned (.tuple #[.agg #[.bool false,.int .i64 0,.int .i64 0,.slice none 0 0,.int .i64 0,.int .i64 0,.slice none 0 0,.slice none 0 0],.slice none 0 0,.int .i64 z])) (z8 w5 r) from sie_zero (by have:=HPR.out;omega) HA5.out.bel)
 go_wp2
 exact bodyPost_ret (v:=.tuple #[.agg #[.bool false,.int .i64 0,.int .i64 0,.slice none 0 0,.int .i64 0,.int .i64 0,.slice none 0 0,.slice none 0 0],.slice none 0 0,.int .i64 z]) (by simp only [results,Tryz.results18];go_simp <;> rfl) rfl HF.out
end Go.Proofs.YtncgbldcjfbknaaGreat
