/- What is proved here: From, Between, Span, Shard of the statements' base; slices.insertionSortCmpFunc of deadlines sorts a row; math/bits.Len of a small number returns some number; slices.SortFunc of at most twelve deadlines sorts a row; slices.Values of deadlines gives its elements in order to whatever loop; slices.Collect collects them. -/
import Derived.Test.YtncgbldcjfbknaaGreatJ30
import Derived.RangeFuncNested
import Derived.RangeFuncBound
import Derived.RangeFuncCalls
import Derived.RangeFuncLeaves
import Derived.RangeFuncBox
import Derived.Shelf.Abstract
import Derived.Shelf.RegionOpen
import Derived.OwnWalkIn
import Derived.TacticsInMore
import Derived.LoopNIn
import Derived.LoopIn
namespace Go.Proofs.YtncgbldcjfbknaaGreat
open Go.RowKit
set_option linter.unusedVariables false
theorem srs_out {B g r:Nat} {w W1 W:World} {S:Sh} {D:Sx} (hS:SrSh S) (hn:D.nw W1.heap.size) (hr1:r<W1.heap.size) (hr:SR W W.heap.size S D) (hs:SrcAt W B g) (hg:w.grownBy W (some g)) (hw:w.heap.size≤r) (hrg:¬r=g) (hB:B≤r):SrShard B g w (.returned (sv S D)) (set8s W r S D):=
 ⟨S,D,rfl,hS,hn.low (by omega),SR.sets (hn.off hr1) (S.l8 D) 0 W hr,hs.sets8 hrg hB S D,only_sets8 hg hw S D⟩
set_option maxHeartbeats 4000000 in
set_option maxRecDepth 20000 in
theorem from_any (B g:Nat) (w:World) (hsrc:SrcAt w B g) (id lo hi:Int) (i1:1≤id) (i2:id≤100000) (l0:0≤lo) (l1:lo≤hi) (l2:hi≤65535) :
  Calls Tryz.prog 91 #[.pointer (some ⟨g,0,none⟩),.int .i64 id,.int .i64 lo,.int .i64 hi] w (SrShard B g w):=by
 have HG0:=Lh (show g<w.heap.size∧B≤g from ⟨hsrc.2.1,hsrc.1⟩)
 have R0:=Lh (SB8.zero w 33)
 have G0:=Lh (only_alloc (World.grownBy.refl w (some g)) (.cells #[.bool false,.int .i64 0,.int .i64 0,.slice none 0 0,.int .i64 0,.int .i64 0,.slice none 0 0,.slice none 0 0] 33))
 have S0:=Lh (hsrc.alloc (.cells #[.bool false,.int .i64 0,.int .i64 0,.slice none 0 0,.int .i64 0,.int .i64 0,.slice none 0 0,.slice none 0 0] 33))
 have HFO:=Lh (fun k (k1:1≤k) (k2:k≤12) W (q:SrcAt W B g)=>fromof_any B g W q k id lo hi k1 k2 i1 i2 l0 l1 l2)
 clear hsrc
 go_enter Tryz.func91,Tryz.ntmps91
 go_wp2_with fail
 obtain ⟨r,hr⟩:∃ r,r=w.heap.size:=⟨_,rfl⟩
 have HRW:=Lh (show w.heap.size≤r∧¬r=g∧B≤r by have:=HG0.out;omega)
 rw [←hr]
 rw [←hr] at R0
 clear hr
 generalize (w.alloc (.cells #[.bool false,.int .i64 0,.int .i64 0,.slice none 0 0,.int .i64 0,.int .i64 0,.slice none 0 0,.slice none 0 0] 33))=w1 at*
 refine (range_any B g _ S0.out 1 12 (by omega) (by omega) (by omega)).mono ?_
 rintro e w2 ⟨x,rfl,x0,x1,hs,hg⟩
 obtain ⟨k,rfl⟩:=Int.eq_ofNat_of_zero_le (show 0≤x by omega)
 have S1:=Lh hs
 have R1:=Lh (R0.out.grownG hg HRW.out.2.1)
 have G1:=Lh (G0.out.trans hg)
 have HF1:=Lh (HFO.out k (by omega) (by omega) w2 hs)
 clear hs hg
 go_wp2_with fail
 refine HF1.out.mono ?_
 rintro e w3 ⟨S,D,rfl,hS,hn,hr,hs,hg⟩
 have R2:=Lh (R1.out.grownG hg HRW.out.2.1)
 have HF:=Lh (srs_out hS hn R1.out.lt hr hs (G1.out.trans hg) HRW.out.1 HRW.out.2.1 HRW.out.2.2)
 clear hS hn hr hs hg
 obtain ⟨⟨r0,r1,r2,r3,r4,r5,r6,r7,rl⟩,⟨g0,g1,g2,g3,g4,g5,g6,g7⟩⟩:=R2.out.all
 go_wp2
 exact bodyPost_ret (v:=sv S D) (by simp only [results,Tryz.results91];go_simp <;> rfl) rfl HF.out
set_option maxHeartbeats 4000000 in
set_option maxRecDepth 20000 in
theorem between_any (B g:Nat) (w:World) (hsrc:SrcAt w B g) (lo hi:Int) (l0:0≤lo) (l1:lo≤hi) (l2:hi≤65535) :
  Calls Tryz.prog 38 #[.pointer (some ⟨g,0,none⟩),.int .i64 lo,.int .i64 hi] w (SrShard B g w):=by
 have HG0:=Lh (show g<w.heap.size∧B≤g from ⟨hsrc.2.1,hsrc.1⟩)
 have R0:=Lh (SB8.zero w 33)
 have G0:=Lh (only_alloc (World.grownBy.refl w (some g)) (.cells #[.bool false,.int .i64 0,.int .i64 0,.slice none 0 0,.int .i64 0,.int .i64 0,.slice none 0 0,.slice none 0 0] 33))
 have S0:=Lh (hsrc.alloc (.cells #[.bool false,.int .i64 0,.int .i64 0,.slice none 0 0,.int .i64 0,.int .i64 0,.slice none 0 0,.slice none 0 0] 33))
 have HFO:=Lh (fun W (q:SrcAt W B g)=>from_any B g W q 1 lo hi (by omega) (by omega) l0 l1 l2)
 clear hsrc
 go_enter Tryz.func38,Tryz.ntmps38
 go_wp2_with fail
 obtain ⟨r,hr⟩:∃ r,r=w.heap.size:=⟨_,rfl⟩
 have HRW:=Lh (show w.heap.size≤r∧¬r=g∧B≤r by have:=HG0.out;omega)
 rw [←hr]
 rw [←hr] at R0
 clear hr
 generalize (w.alloc (.cells #[.bool false,.int .i64 0,.int .i64 0,.slice none 0 0,.int .i64 0,.int .i64 0,.slice none 0 0,.slice none 0 0] 33))=w1 at*
 refine (HFO.out _ S0.out).mono ?_
 rintro e w3 ⟨S,D,rfl,hS,hn,hr,hs,hg⟩
 have R2:=Lh (R0.out.grownG hg HRW.out.2.1)
 have HF:=Lh (srs_out hS hn R0.out.lt hr hs (G0.out.trans hg) HRW.out.1 HRW.out.2.1 HRW.out.2.2)
 clear hS hn hr hs hg
 obtain ⟨⟨r0,r1,r2,r3,r4,r5,r6,r7,rl⟩,⟨g0,g1,g2,g3,g4,g5,g6,g7⟩⟩:=R2.out.all
 go_wp2
 exact bodyPost_ret (v:=sv S D) (by simp only [results,Tryz.results38];go_simp <;> rfl) rfl HF.out
def SrSpan (B g:Nat) (w:World) (e:Ending) (w' : World):Prop:=∃ lo hi,e=.returned (.tuple #[.int .i64 lo,.int .i64 hi])∧0≤lo∧lo≤hi∧hi≤65535∧SrcAt w' B g∧w.grownBy w' (some g)
theorem row5 (w:World) (a b c d e:Int) (t:TypeId):∀ j (hj:j < [a,b,c,d,e].length),(w.alloc (.cells #[.int .i64 a,.int .i64 b,.int .i64 c,.int .i64 d,.int .i64 e] t)).cell? ⟨w.heap.size,j,none⟩=some (.int .i64 [a,b,c,d,e][j]):=by
 intro j hj
 have h5:j<5:=hj
 match j,h5 with
 | 0,_=>simp [go_sem]
 | 1,_=>simp [go_sem]
 | 2,_=>simp [go_sem]
 | 3,_=>simp [go_sem]
 | 4,_=>simp [go_sem]
set_option maxHeartbeats 4000000 in
set_option maxRecDepth 20000 in
theorem span_any (B g:Nat) (w:World) (hsrc:SrcAt w B g) :
  Calls Tryz.prog 37 #[.pointer (some ⟨g,0,none⟩)] w (SrSpan B g w):=by
 have HG0:=Lh (show g<w.heap.size∧B≤g from ⟨hsrc.2.1,hsrc.1⟩)
 have P0:=Lh (pick_any B g (w.alloc (.cells #[.int .i64 0,.int .i64 0,.int .i64 100,.int .i64 32768,.int .i64 65535] 3)) (hsrc.alloc (.cells #[.int .i64 0,.int .i64 0,.int .i64 100,.int .i64 32768,.int .i64 65535] 3)) w.heap.size 5 [0,0,100,32768,65535] rfl (by simp) (by have:=HG0.out;omega) (by omega) (by omega) (row5 w 0 0 100 32768 65535 3))
 have G0:=Lh (only_alloc (World.grownBy.refl w (some g)) (.cells #[.int .i64 0,.int .i64 0,.int .i64 100,.int .i64 32768,.int .i64 65535] 3))
 clear hsrc
 go_enter Tryz.func37,Tryz.ntmps37
 go_wp2_with fail
 refine P0.out.mono ?_
 rintro e w2 ⟨x,rfl,hx,hs,hg⟩
 have HX:=Lh (show 0≤x∧x≤65535 by simp at hx;omega)
 have P1:=Lh (pick_any B g (w2.alloc (.cells #[.int .i64 65535,.int .i64 65535,.int .i64 40000,.int .i64 101,.int .i64 32768] 3)) (hs.alloc (.cells #[.int .i64 65535,.int .i64 65535,.int .i64 40000,.int .i64 101,.int .i64 32768] 3)) w2.heap.size 5 [65535,65535,40000,101,32768] rfl (by simp) (by have:=hs.2.1;omega) (by omega) (by omega) (row5 w2 65535 65535 40000 101 32768 3))
 have G1:=Lh (only_alloc (G0.out.trans hg) (.cells #[.int .i64 65535,.int .i64 65535,.int .i64 40000,.int .i64 101,.int .i64 32768] 3))
 clear hx hs hg
 go_wp2_with fail
 refine P1.out.mono ?_
 rintro e w3 ⟨y,rfl,hy,hs,hg⟩
 have HF:=Lh (show SrSpan B g w (.returned (.tuple #[.int .i64 (min x y),.int .i64 (max x y)])) w3 from
  ⟨_,_,rfl,by have:=HX.out;simp at hy;omega,by omega,by have:=HX.out;simp at hy;omega,hs,G1.out.trans hg⟩)
 clear hy hs hg
 go_wp2
 exact bodyPost_ret (v:=.tuple #[.int .i64 (min x y),.int .i64 (max x y)]) (by simp only [results,Tryz.results37];go_simp <;> rfl) rfl HF.out
set_option maxHeartbeats 4000000 in
set_option maxRecDepth 20000 in
theorem shard_any (B g:Nat) (w:World) (hsrc:SrcAt w B g) :
  Calls Tryz.prog 9 #[.pointer (some ⟨g,0,none⟩)] w (SrShard B g w):=by
 have HG0:=Lh (show g<w.heap.size∧B≤g from ⟨hsrc.2.1,hsrc.1⟩)
 have R0:=Lh (SB8.zero w 33)
 have G0:=Lh (only_alloc (World.grownBy.refl w (some g)) (.cells #[.bool false,.int .i64 0,.int .i64 0,.slice none 0 0,.int .i64 0,.int .i64 0,.slice none 0 0,.slice none 0 0] 33))
 have S0:=Lh (hsrc.alloc (.cells #[.bool false,.int .i64 0,.int .i64 0,.slice none 0 0,.int .i64 0,.int .i64 0,.slice none 0 0,.slice none 0 0] 33))
 clear hsrc
 go_enter Tryz.func9,Tryz.ntmps9
 go_wp2_with fail
 obtain ⟨r,hr⟩:∃ r,r=w.heap.size:=⟨_,rfl⟩
 have HRW:=Lh (show w.heap.size≤r∧¬r=g∧B≤r by have:=HG0.out;omega)
 rw [←hr]
 rw [←hr] at R0
 clear hr
 generalize (w.alloc (.cells #[.bool false,.int .i64 0,.int .i64 0,.slice none 0 0,.int .i64 0,.int .i64 0,.slice none 0 0,.slice none 0 0] 33))=w1 at*
 refine (span_any B g _ S0.out).mono ?_
 rintro e w2 ⟨lo,hi,rfl,l0,l1,l2,hs,hg⟩
 have R1:=Lh (R0.out.grownG hg HRW.out.2.1)
 have G1:=Lh (G0.out.trans hg)
 have HB:=Lh (between_any B g _ hs lo hi l0 l1 l2)
 clear hs hg l0 l1 l2
 go_wp2_with fail
 refine HB.out.mono ?_
 rintro e w3 ⟨S,D,rfl,hS,hn,hr,hs,hg⟩
 have R2:=Lh (R1.out.grownG hg HRW.out.2.1)
 have HF:=Lh (srs_out hS hn R1.out.lt hr hs (G1.out.trans hg) HRW.out.1 HRW.out.2.1 HRW.out.2.2)
 clear hS hn hr hs hg
 obtain ⟨⟨r0,r1,r2,r3,r4,r5,r6,r7,rl⟩,⟨g0,g1,g2,g3,g4,g5,g6,g7⟩⟩:=R2.out.all
 go_wp2
 exact bodyPost_ret (v:=sv S D) (by simp only [results,Tryz.results9];go_simp <;> rfl) rfl HF.out
def IsP (w:World) (q n:Nat) (h:List Du) (e:Ending) (w' : World):Prop:=e=.returned (.tuple #[])∧∃ g:List Du,g.Perm h∧Srt g∧RwAt w q n g w'
set_option maxHeartbeats 8000000 in
set_option maxRecDepth 20000 in
theorem isort_any (q n cap:Nat) (h:List Du) (w:World) (hr:DRow w q n (ge h)) (hn:h.length=n) (h100:n≤100) :
  Calls Tryz.prog 221 #[.slice (some ⟨q,0,none⟩) n cap,.int .i64 0,.int .i64 n,.func (.func 163) #[] #[]] w (IsP w q n h):=by
 have H:=Lh (RwAt.mk hr hn (Below.refl q w))
 have hn100:(n:Int)≤100:=by omega
 clear hr hn
 go_enter Tryz.func221,Tryz.ntmps221
 go_wp2
 go_loopw [8] (fun iv wr=>∃ (i:Nat) (g:List Du),iv=.int .i64 i∧1≤i∧i≤101∧SrtTo h i g∧RwAt w q n g wr) (fun iv _=>n - (intOf iv).toNat)
 case atStart=>exact ⟨1,h,rfl,Nat.le_refl _,by omega,SrtTo.start h,H.out⟩
 case round=>
  obtain ⟨i,g,rfl,hi1,hi2,hso,hra⟩:=hrel
  have HS:=Lh hso
  have HR:=Lh hra
  clear hso hra
  have hi3:(i:Int)≤101:=by omega
  by_cases hlt:i<n
  ·have hlt' : (i:Int)<(n:Int):=by omega
   go_wp2
   go_loopw [9] (fun jv wr2=>∃ (j:Nat) (g2:List Du),jv=.int .i64 j∧j≤i∧Ins h i j g2∧RwAt w q n g2 wr2) (fun jv _=>(intOf jv).toNat)
   case atStart=>exact ⟨i,g,rfl,Nat.le_refl _,HS.out.ins,HR.out⟩
   case round=>
    obtain ⟨j,g2,rfl,hji,hin,hr2⟩:=hrel
    have HI:=Lh hin
    have HR2:=Lh hr2
    clear hin hr2
    by_cases hj0:0<j
    ·obtain ⟨k,hk⟩:∃ k,k=j - 1:=⟨_,rfl⟩
     have HK:=Lh hk
     have hw:IntKind.i64.wrap ((j:Int) - 1)=(k:Int):=by rw [IntWalk.i64_in _ (by omega)];omega
     have hjn:j<n:=by omega
     have hkn:k<n:=by omega
     obtain ⟨c0,c1,f0,f1,hq⟩:=HR2.out.row.at_ hjn
     obtain ⟨d0,d1,e0,e1,-⟩:=HR2.out.row.at_ hkn
     obtain ⟨X,hX⟩:∃ X,ge g2 j=X:=⟨_,rfl⟩
     obtain ⟨Y,hY⟩:∃ Y,ge g2 k=Y:=⟨_,rfl⟩
     have HX:=Lh hX
     have HY:=Lh hY
     rw [hX] at c0 c1
     rw [hY] at d0 d1
     have HC:=Lh (fun w=>compare_any X Y w)
     have HSA:=Lh (show wr.drew.cell? ⟨q,j*2,none⟩=some (.int .i64 X.dl)∧wr.drew.cell? ⟨q,j*2+1,none⟩=some (.int .i64 X.id)∧wr.drew.cell? ⟨q,k*2,none⟩=some (.int .i64 Y.dl)∧wr.drew.cell? ⟨q,k*2+1,none⟩=some (.int .i64 Y.id) from ⟨c0,c1,d0,d1⟩)
     have HSC:=Lh (fun w1 (hb1:Below wr.drew.heap.size wr.drew w1)=>show (w1.cell? ⟨q,j*2,none⟩=some (.int .i64 X.dl)∧w1.cell? ⟨q,j*2+1,none⟩=some (.int .i64 X.id)∧w1.cell? ⟨q,k*2,none⟩=some (.int .i64 Y.dl)∧w1.cell? ⟨q,k*2+1,none⟩=some (.int .i64 Y.id))∧RwAt w q n g2 w1 from ⟨⟨(hb1.cell (p:=⟨q,j*2,none⟩) hq).trans c0,(hb1.cell (p:=⟨q,j*2+1,none⟩) hq).trans c1,(hb1.cell (p:=⟨q,k*2,none⟩) hq).trans d0,(hb1.cell (p:=⟨q,k*2+1,none⟩) hq).trans d1⟩,HR2.out.drew.below hb1⟩)
     have hj0' : (0:Int)<(j:Int):=by omega
     have hjn' : (j:Int)<(n:Int):=by omega
     have hkn' : (k:Int)<(n:Int):=by omega
     have hgd:decide ((0:Int)<(j:Int))=true:=decide_eq_true hj0'
     clear hX hY hk f0 f1 e0 e1
     cases hb:bef X Y with
     | true=>
      have HBB:=Lh (show bef (ge g2 j) (ge g2 (j - 1))=true by rw [HX.out,←HK.out,HY.out];exact hb)
      have hne:¬j=k∧¬k=j:=by have:=HK.out;omega
      have HNE:=Lh hne
      rw [cmF_lt hb] at HC
      clear hb hne
      go_wp2
      go_region_held3 (fun W=>W.cell? ⟨q,j*2,none⟩=some (.int .i64 X.dl)∧W.cell? ⟨q,j*2+1,none⟩=some (.int .i64 X.id)∧W.cell? ⟨q,k*2,none⟩=some (.int .i64 Y.dl)∧W.cell? ⟨q,k*2+1,none⟩=some (.int .i64 Y.id))
       (first | with_reducible exact HSA.out | with_reducible exact HSB.out)
       ((go_at_call 163;(with_reducible refine (HC.out _).mono ?_);rintro e w1 ⟨rfl,hb1⟩;obtain ⟨hs,hr⟩:=HSC.out _ hb1;have HSB:=Lh hs;have HR3:=Lh hr;clear hb1 hs hr))
      clear c0 c1 d0 d1 hq
      obtain ⟨c0,c1,f0,f1,hq⟩:=HR3.out.row.at_ hjn
      obtain ⟨d0,d1,e0,e1,-⟩:=HR3.out.row.at_ hkn
      rw [HX.out] at c0 c1
      rw [HY.out] at d0 d1
      obtain ⟨n1,n2⟩:=HNE.out
      go_wp2
      go_region
      clear c0 c1 d0 d1 f0 f1 e0 e1 hq n1 n2
      have HR4:=Lh ((HR3.out.swap hjn hkn).drew)
      rw [HX.out,HY.out] at HR4
      generalize ((((w1.setCell ⟨q,j*2,none⟩ (.int .i64 Y.dl)).setCell ⟨q,j*2+1,none⟩ (.int .i64 Y.id)).setCell ⟨q,k*2,none⟩ (.int .i64 X.dl)).setCell ⟨q,k*2+1,none⟩ (.int .i64 X.id)).drew=w2 at*
      have HI2:=Lh (show Ins h i k (swp g2 j k) by rw [HK.out];exact HI.out.step hj0 hji (by rw [HR2.out.len];omega) HBB.out)
      go_wp2
      go_roundw
      case rel=>exact ⟨k,swp g2 j k,by have:=HK.out;go_num,by have:=HK.out;omega,HI2.out,HR4.out⟩
      case measure=>have:=HK.out;simp [intOf];omega
     | false=>
      have HDN:=Lh (HI.out.done hji (.inr (by rw [HX.out,←HK.out,HY.out];exact hb)))
      have hcn:¬(cmF X Y<0):=fun hc=>by rw [(cmF_neg X Y).1 hc] at hb;cases hb
      generalize cmF X Y=cv at*
      have hcd:decide (cv<0)=false:=decide_eq_false hcn
      clear hb
      go_wp2
      go_region_held3 (fun W=>W.cell? ⟨q,j*2,none⟩=some (.int .i64 X.dl)∧W.cell? ⟨q,j*2+1,none⟩=some (.int .i64 X.id)∧W.cell? ⟨q,k*2,none⟩=some (.int .i64 Y.dl)∧W.cell? ⟨q,k*2+1,none⟩=some (.int .i64 Y.id))
       (first | with_reducible exact HSA.out | with_reducible exact HSB.out)
       ((go_at_call 163;(with_reducible refine (HC.out _).mono ?_);rintro e w1 ⟨rfl,hb1⟩;obtain ⟨hs,hr⟩:=HSC.out _ hb1;have HSB:=Lh hs;have HR3:=Lh hr;clear hb1 hs hr))
      clear c0 c1 d0 d1 hq
      go_wp2
      go_roundw
      case rel=>exact ⟨i+1,g2,by go_num,by omega,by omega,HDN.out,HR3.out⟩
      case measure=>simp [intOf];omega
    ·obtain rfl:j=0:=by omega
     have HDN:=Lh (HI.out.done (Nat.zero_le _) (.inl rfl))
     go_wp2
     go_quiet (fail)
     go_wp2
     go_roundw
     case rel=>exact ⟨i+1,g2,by go_num,by omega,by omega,HDN.out,HR2.out.drewN _⟩
     case measure=>simp [intOf];omega
  ·have hlt' : ¬(i:Int)<(n:Int):=by omega
   have HF:=Lh (show ∃ g:List Du,g.Perm h∧Srt g∧RwAt w q n g wr from ⟨g,HS.out.perm,HS.out.srt (by rw [HR.out.len];omega),HR.out⟩)
   go_wp2
   go_end0
   exact ⟨rfl,HF.out⟩
def LnP (w:World) (e:Ending) (w' : World):Prop:=∃ r:Int,e=.returned (.int .i64 r)∧w=w'
set_option maxHeartbeats 8000000 in
set_option maxRecDepth 200000 in
theorem len64_any (x:Nat) (hx:x≤12) (w:World):Calls Tryz.prog 230 #[.int .u64 (x:Int)] w (LnP w):=by
 have hc:x=0∨x=1∨x=2∨x=3∨x=4∨x=5∨x=6∨x=7∨x=8∨x=9∨x=10∨x=11∨x=12:=by omega
 clear hx
 rcases hc with rfl | rfl | rfl | rfl | rfl | rfl | rfl | rfl | rfl | rfl | rfl | rfl | rfl
 all_goals
  go_enter Tryz.func230,Tryz.ntmps230
  go_wp2
  go_ret
  exact ⟨_,rfl,rfl⟩
theorem len_any (x:Nat) (hx:x≤12) (w:World):Calls Tryz.prog 218 #[.int .u64 (x:Int)] w (LnP w):=by
 have HL:=Lh (len64_any x hx)
 have hx' : (x:Int)≤12:=by omega
 clear hx
 go_enter Tryz.func218,Tryz.ntmps218
 go_wp2_with fail
 refine (HL.out _).mono ?_
 rintro e w1 ⟨r,rfl,rfl⟩
 go_wp2
 go_ret
 exact ⟨_,rfl,rfl⟩
set_option maxHeartbeats 4000000 in
set_option maxRecDepth 20000 in
theorem pdq_any (q n cap:Nat) (lim:Int) (h:List Du) (w:World) (hr:DRow w q n (ge h)) (hn:h.length=n) (h12:n≤12) :
  Calls Tryz.prog 217 #[.slice (some ⟨q,0,none⟩) n cap,.int .i64 0,.int .i64 n,.int .i64 lim,.func (.func 163) #[] #[]] w (IsP w q n h):=by
 have HI:=Lh (isort_any q n cap h w hr hn (by omega))
 have hn12:(n:Int)≤12:=by omega
 clear hr hn h12
 go_enter Tryz.func217,Tryz.ntmps217
 go_wp2
 go_loopw [1,2,3,10,11] (fun a b l x y wr=>a=.int .i64 0∧b=.int .i64 n∧l=.int .i64 lim∧x=.bool true∧y=.bool true∧wr=w) (fun _ _ _ _ _ _=>0)
 case atStart=>exact ⟨rfl,rfl,rfl,rfl,rfl,rfl⟩
 case round=>
  obtain ⟨rfl,rfl,rfl,rfl,rfl,rfl⟩:=hrel
  go_wp2_with fail
  refine HI.out.mono ?_
  rintro e w1 ⟨rfl,hp⟩
  have HP:=Lh hp
  clear hp
  go_wp2
  refine bodyPost_ret (results_none rfl _ _ _) rfl ?_
  exact ⟨rfl,HP.out⟩
set_option maxHeartbeats 2000000 in
theorem sortfunc_any (q n cap:Nat) (h:List Du) (w:World) (hr:DRow w q n (ge h)) (hn:h.length=n) (h12:n≤12) :
  Calls Tryz.prog 201 #[.slice (some ⟨q,0,none⟩) n cap,.func (.func 163) #[] #[]] w (IsP w q n h):=by
 have HI:=Lh (fun lim=>pdq_any q n cap lim h w hr hn h12)
 have HL:=Lh (fun w=>len_any n h12 w)
 have hn12:(n:Int)≤12:=by omega
 clear hr hn h12
 go_enter Tryz.func201,Tryz.ntmps201
 go_wp2_with fail
 refine (HL.out _).mono ?_
 rintro e w1 ⟨r,rfl,rfl⟩
 go_wp2_with fail
 refine (HI.out _).mono ?_
 rintro e w1 ⟨rfl,hp⟩
 have HP:=Lh hp
 clear hp
 go_wp2
 go_end0
 exact ⟨rfl,HP.out⟩
end Go.Proofs.YtncgbldcjfbknaaGreat
namespace Go.Proofs.YtncgbldcjfbknaaGreat
open Go.RowKit Go.Shelf
set_option linter.unusedVariables false
attribute [local go_sem] Oper.semAt_some
set_option maxRecDepth 100000 in
set_option maxHeartbeats 4000000 in
theorem values1_in (F:Fence) (n:Nat) (h7:F.fn 202) (hro:F.round=none) (hn:1≤n) (l Bs n₀:Nat) (A:Option Addr) (c:Nat) (zs:List Du) (hl1:zs.length≤1000) (J Jx:List Du→World→Prop)
  (hJ:∀ s W o,J s W→J s (W.alloc o))
  (hY:∀ pre x W,J pre W→pre.length<zs.length→YieldAt F (n - 1) Tryz.prog l #[Du.v x] W fun e W'=>
   (e=.returned (.bool true)∧J (pre++[x]) W'∧Below n₀ W W')∨(e=.returned (.bool false)∧Jx (pre++[x]) W'))
  (W:World) (hn₀:n₀≤W.heap.size) (hBs:W.cell? ⟨Bs,0,none⟩=some (.slice A zs.length c)) (hc:Dl W n₀ (.slice A zs.length c) zs) (h0:J [] W) :
  CallsIn F n Tryz.prog 202 #[.func (.yield l) #[] #[],.pointer (some ⟨Bs,0,none⟩)] W fun e W'=>(∃ v,e=.returned v)∧
   ((∃ ys,ys=zs∧J ys W')∨(∃ pre,pre <+: zs∧Jx pre W')):=by
 have HC:=Lh hc
 have HJ:=Lh hJ
 have H0:=Lh h0
 have hl2:(zs.length:Int)≤1000:=by omega
 clear hc hJ h0
 refine callsIn_of_wp Tryz.func202 rfl h7 ?_ hro
 simp only [Tryz.ntmps202,List.size_toArray,List.length_cons,List.length_nil,Nat.reduceAdd,Nat.reduceSub,Array.replicate_succ,Array.replicate_zero,List.push_toArray,List.append_toArray,List.nil_append,List.cons_append]
 gi_wp2
 gi_loopw [7] (fun i wr=>∃ k:Nat,k≤zs.length∧i=.int .i64 k∧J (zs.take k) wr∧Below n₀ W wr)
  (fun i _=>zs.length - (intOf i).toNat)
 case atStart=>exact ⟨0,Nat.zero_le _,rfl,H0.out,Below.refl _ _⟩
 case round=>
  obtain ⟨k,hk,rfl,hJs,hnx⟩:=hrel
  have HN:=Lh hnx
  have HJS:=Lh hJs
  clear hnx hJs
  by_cases hlt:k<zs.length
  ·obtain ⟨b,o,rfl,hb,c0,c1⟩:=(HC.out.below HN.out).atg hlt
   have htk:zs.take (k+1)=zs.take k++[ge zs k]:=by rw [←ge_get hlt];exact (List.take_append_getElem hlt).symm
   have HTK:=Lh htk
   obtain ⟨X,hX⟩:∃ X,ge zs k=X:=⟨_,rfl⟩
   rw [hX] at c0 c1 HTK
   clear htk hX
   obtain ⟨fn,tmps,assign,body,hy,hR⟩:=hY _ X (wr.alloc (.cells #[.int .i64 X.dl,.int .i64 X.id] 127)) (HJ.out _ _ _ HJS.out) (by rw [List.length_take];omega)
   gi_wp2
   refine hR.mono ?_
   rintro e W3 (⟨rfl,hJ3,hk3⟩ | ⟨rfl,hJx3⟩)
   ·have HB3:=Lh (HN.out.trans (((Below.refl n₀ wr).alloc (by have:=HN.out.size;omega) _).trans hk3))
    have HJ3:=Lh hJ3
    clear hJ3 hk3
    gi_wp2
    go_roundw
    case rel=>exact ⟨k+1,by omega,by simp,by rw [HTK.out];exact HJ3.out,HB3.out⟩
    case measure=>simp [intOf];omega
   ·gi_wp2
    refine bodyPost_ret (results_none rfl _ _ _) rfl ?_
    exact ⟨⟨_,rfl⟩,.inr ⟨_,by rw [←HTK.out];exact List.take_prefix _ _,hJx3⟩⟩
  ·obtain rfl:k=zs.length:=by omega
   have hJz:=HJS.out
   rw [List.take_length] at hJz
   gi_wp2
   go_end0
   exact ⟨⟨_,rfl⟩,.inl ⟨_,rfl,hJz⟩⟩
theorem values_stops (F:Fence) (n:Nat) (h7:F.fn 202) (hro:F.round=none) (hn:1≤n) (Bs n₀:Nat) (A:Option Addr) (c:Nat) (zs:List Du) (hl1:zs.length≤1000) (w:World) (hBs:Bs<w.heap.size) (hn₀:n₀≤w.heap.size)
  (hc:w.cell? ⟨Bs,0,none⟩=some (.slice A zs.length c)) (hI:Dl w n₀ (.slice A zs.length c) zs) :
  SeqStopsK F n Tryz.prog 202 #[.pointer (some ⟨Bs,0,none⟩)] (fun x:Du=>#[x.v]) (Below n₀) (fun ys=>ys=zs) (fun pre=>pre <+: zs) zs.length w:=fun l J Jx W hW hJ _ hY h0=>
 values1_in F n h7 hro hn l Bs n₀ A c zs hl1 J Jx (fun s W' o hs=>hJ s W' _ none hs (World.grownBy_alloc W' o none) (fun r e=>by cases e)) hY W (Nat.le_trans hn₀ hW.size) ((hW.cell (p:=⟨Bs,0,none⟩) hBs).trans hc) (hI.below (hW.mono hn₀)) h0
def Bx2 (W:World) (B:Nat) (d:Du):Prop:=W.heap[B]? = some (.cells #[.int .i64 d.dl,.int .i64 d.id] 127 (0,0))
theorem Bx2.new (W:World) (d:Du):Bx2 (W.alloc (.cells #[.int .i64 d.dl,.int .i64 d.id] 127)) W.heap.size d:=World.alloc_heap_new W _
theorem Bx2.cells {W:World} {B:Nat} {d:Du} (h:Bx2 W B d):W.cell? ⟨B,0,none⟩=some (.int .i64 d.dl)∧W.cell? ⟨B,1,none⟩=some (.int .i64 d.id):=by
 constructor <;> simp [World.cell?,show W.heap[B]? = _ from h]
set_option maxRecDepth 100000 in
set_option maxHeartbeats 4000000 in
theorem dappseq_in (F:Fence) (n:Nat) (h58:F.fn 216) (hro:F.round=none) (hn:3≤n) (g:Nat) (lb:Array Value) (hFg:F.fn g) (eg:∀ args w,(callFunc g args).run Tryz.prog w=.ok (.enter g args) w)
  (S Sp:List Du→Prop) (N:Nat) (hN:N≤1000) (w:World) (hseq:SeqStopsK F (n - 1) Tryz.prog g lb (fun x:Du=>#[x.v]) (Below w.heap.size) S Sp N w) :
  CallsIn F n Tryz.prog 216 #[.slice none 0 0,.func (.func g) #[] lb] w fun e w'=>∃ (v:Value) (xs:List Du),e=.returned v∧S xs∧w'.ownsRow w.heap.size 127 2 v xs.length (dcs xs)∧Below w.heap.size w w':=by
 have h1:1≤n:=by omega
 obtain ⟨i0,hi,hz0⟩:=Option.map_eq_some_iff.1 info_due
 simp only [Prod.mk.injEq] at hz0
 refine callsIn_of_wp_marks Tryz.func216 rfl h58 ?_ hro
 simp only [Tryz.ntmps216,List.size_toArray,List.length_cons,List.length_nil,Nat.reduceAdd,Nat.reduceSub,Array.replicate_succ,Array.replicate_zero,List.push_toArray,List.append_toArray,List.nil_append,List.cons_append]
 gi_wp2
 have bO:=Boxed.new w 29 (.slice none 0 0)
 have hB0:Below w.heap.size w (w.alloc (.cells #[.slice none 0 0] 29)):=(Below.refl _ w).alloc (Nat.le_refl _) _
 refine wpIn_rangeFunc_ownH hro h1 (gf:=g) (lb:=lb) rfl hFg eg hseq belowK_t (belowK_b (by simp)) hB0 (fun _=>rfl)
  (fun pre W=>(∃ v,Boxed W w.heap.size 29 v∧W.ownsRow w.heap.size 127 2 v pre.length (dcs pre)∧True)∧Below w.heap.size w W)
  (fun _ _ _=>False)
  (OwnFrom.and (Own.from (holdsRow_own w.heap.size w.heap.size 29 127 2 (fun pre=>pre.length) (fun pre=>dcs pre) (fun _ _=>True)) _) (ownFrom_below (Nat.le_refl _) (by simp)))
  (fun _ _ _ _ _ hs _ _=>hs)
  ⟨⟨_,bO,World.ownsRow_nil _ _ _ _,trivial⟩,hB0⟩
  (fun x a' W=>∃ B5,w.heap.size<B5∧Bx2 W B5 x∧a' = { tmps:=#[.slice none 0 0,.func (.func g) #[] lb,.pointer (some ⟨w.heap.size,0,none⟩),undef,.slice none 0 0,.pointer (some ⟨B5,0,none⟩),.func (.func g) #[] lb,x.v,undef,undef,undef,undef,undef],defers:=[] })
  (fun x a' _ X Y row hs hg hr=>by
   obtain ⟨B5,h1,h2,h3⟩:=hs
   exact ⟨B5,h1,(hg.block B5 (Array.getElem?_eq_some_iff.1 h2).1 (fun e=>by obtain ⟨_,o,ho,hc⟩:=hr B5 e.symm;rw [show X.heap[B5]? = _ from h2] at ho;cases ho;cases hc)).trans h2,h3⟩)
  ?assign ?body ?done ?stop
 case assign=>
  rintro l pre x W K ⟨⟨v,hv,hrow,_⟩,hB⟩ hK
  gi_wp2
  exact hK _ _ ((KeepsOthers.alloc _ _).from _) ((Below.refl _ W).alloc hB.size _) ⟨⟨v,hv.alloc _,hrow.alloc _,trivial⟩,hB.alloc hB.size _⟩ ⟨W.heap.size,hv.lt,Bx2.new W x,rfl⟩
 case body=>
  rintro l pre x a' W hl ⟨r,hr⟩ ⟨⟨v,hv,hrow,_⟩,hB⟩ ⟨B5,hB5,hbx,rfl⟩ hlt
  have hc:=hv.cell
  obtain ⟨x0,x1⟩:=hbx.cells
  have hsz:=hB.size
  have hdc:dcs (pre++[x])=dcs pre++x.l:=by rw [dcs_app,show dcs [x]=x.l by simp [dcs]]
  have hnw:∀ j u,x.l[j]? = some u→(W.alloc (.cells #[.int .i64 x.dl,.int .i64 x.id] 127)).cell? ((⟨W.heap.size,0,none⟩:Addr).add j)=some u:=fun j u hu=>by
   rw [add_mk,Nat.zero_add,World.cell?_alloc_new,←hu];simp [Du.l]
  have hx1:∀ u∈x.l,u.oneCell' = true:=fun u hu=>by
   simp only [Du.l,List.mem_cons,List.not_mem_nil,or_false] at hu
   rcases hu with rfl | rfl <;> rfl
  gi_wp2_with (gi_at_builtin;refine wpListIn_append_own _ rfl _ _ 29 rfl w.heap.size 127 i0 _ 2 16 Tryz.underlying29 hi hz0.1 hz0.2.1 hz0.2.2 rfl (by decide) _ _ _ rfl (hrow.alloc _) ⟨W.heap.size,0,none⟩ 1 1 x.l rfl rfl hnw hx1 (by unfold maxLen;omega) (by omega) (by simp;omega) ?_;intro v' w1 hown' hgrow _;obtain ⟨g',cap',rfl⟩:=ownsRow_succ hown';obtain ⟨hv1,hv2,hr2,hk2,hb2⟩:=hv.appended (by decide) hrow hsz (Nat.le_refl _) hown' hgrow;have hc1:=hv1.cell;have hf1:=hv1.frozen)
  exact ⟨hk2.from _,hb2,⟨_,hv2,by rw [List.length_append,hdc];exact hr2,trivial⟩,hB.trans hb2⟩
 case done=>
  rintro D ys W hD hS ⟨⟨v,hv,hrow,_⟩,hB⟩ hK
  have hc:=hv.cell
  gi_wp2
  refine ⟨by simp,.inl ⟨_,_,rfl,run_takeDeferred hK,?_⟩⟩
  exact ⟨_,results_tmp rfl _ _ _,v,ys,rfl,hS,ownsRow_putObj hrow _ hK rfl,hB.trans (belowK_b (w:=w) (Nat.le_refl _) W D _ _ (by simp at hD;omega) hK rfl rfl)⟩
 case stop=>
  rintro D c pre W _ _ h _
  exact h.elim
theorem dcollect_any (Bs:Nat) (A:Option Addr) (c:Nat) (zs:List Du) (hl1:zs.length≤1000) (w:World) (hBs:Bs<w.heap.size) (hc:w.cell? ⟨Bs,0,none⟩=some (.slice A zs.length c)) (hI:Dl w w.heap.size (.slice A zs.length c) zs) :
  Calls Tryz.prog 200 #[.func (.func 202) #[] #[.pointer (some ⟨Bs,0,none⟩)]] w (DClP w zs):=by
 have HA:=Lh (callsIn_wide.1 (dappseq_in Fence.wide 5 trivial rfl (by omega) 202 #[.pointer (some ⟨Bs,0,none⟩)] trivial (enters_of Tryz.func202 (by kernel_rfl) rfl) (fun ys=>ys=zs) (fun pre=>pre <+: zs) zs.length hl1 w
  (values_stops Fence.wide 4 trivial rfl (by omega) Bs w.heap.size A c zs hl1 w hBs (Nat.le_refl _) hc hI)))
 clear hBs hc hI
 go_enter Tryz.func200,Tryz.ntmps200
 go_wp2_with fail
 refine HA.out.mono ?_
 rintro e w1 ⟨v,xs,rfl,rfl,ho,hb⟩
 have HP:=Lh (show DClP w xs (.returned v) w1 from ⟨v,rfl,ho,hb⟩)
 clear ho hb
 go_wp2
 go_ret
 exact HP.out
end Go.Proofs.YtncgbldcjfbknaaGreat
