/- What is proved here: shard.Divide, by one contract for all shards whose numbers are in range; Sdd; (plain) nothing old is turned by draws; shardqueueref05.SameInts of two lists that read alike is true; '==' and '!=' of a lease and itself. -/
import Derived.Test.YtncgbldcjfbknaaGreatJ36
import Derived.Test.YtncgbldcjfbknaaGreatJ33
namespace Go.Proofs.YtncgbldcjfbknaaGreat
open Go.RowKit
set_option linter.unusedVariables false
noncomputable def dvE (S:Sh) (mid:Int):Int:=exS S (wi mid S.lo (S.hi - 1))
noncomputable def dvA (S:Sh) (mid:Int):Sh:=if dvE S mid=0 then gthF (neS S.cs.length S.lo mid) S else zS
noncomputable def dvB (S:Sh) (mid:Int):Sh:=if dvE S mid=0 then gthF (neS S.cs.length (mid+1) S.hi) S else zS
/-- Two shards and an error as a result. -/
def SE2 (w:World) (A B:Sh) (x:Int) (e:Ending) (w' : World):Prop:=∃ D1 D2,e=.returned (.tuple #[sv A D1,sv B D2,.int .i64 x])∧D1.nw w.heap.size∧D2.nw w.heap.size∧SR w' w'.heap.size A D1∧SR w' w'.heap.size B D2∧Below w.heap.size w w'
theorem nl_oned (w:World) (a:Rn) (t:TypeId):Nl (w.alloc (.cells #[.int .i64 a.n,.int .i64 a.lo,.int .i64 a.hi] t)) (w.heap.size+1) (.slice (some ⟨w.heap.size,0,none⟩) 1 1) [a]:=by
 refine ⟨_,1,rfl,Nat.le_refl _,by unfold maxLen;omega,by rw [rcs_len],fun _=>⟨w.heap.size,0,rfl,Nat.lt_succ_self _,fun j u hu=>?_⟩⟩
 rw [Nat.zero_add,World.cell?_alloc_new]
 simpa [rcs,Rn.l] using hu
/-- The boxes of Divide. -/
structure DvAt (w:World) (p a b:Nat) (S A B:Sh) (D Da Db:Sx) (W:World):Prop where
 sa:SAt w p S D W
 aa:SAt w a A Da W
 bb:SAt w b B Db W
 na:Da.nw (b+1)
 nb:Db.nw (b+1)
 so:SOff S D a∧SOff S D b
 ne:p<a∧a<b
section
variable {w W W' : World} {p a b:Nat} {S A B:Sh} {D Da Db:Sx}
theorem DvAt.below (h:DvAt w p a b S A B D Da Db W) (hb:Below W.heap.size W W'):DvAt w p a b S A B D Da Db W':=⟨h.sa.below hb,h.aa.below hb,h.bb.below hb,h.na,h.nb,h.so,h.ne⟩
theorem DvAt.putA {A' : Sh} {Da' : Sx} (h:DvAt w p a b S A B D Da Db W) (hr:SR W W.heap.size A' Da') (hn:Da'.nw (b+1)):DvAt w p a b S A' B D Da' Db (set8s W a A' Da'):=by
 have hne:=h.ne
 exact ⟨h.sa.put_far (show a≠p by omega) h.so.1 h.aa.old A' Da',h.aa.put hr (hn.off (by omega)),h.bb.put_far (show a≠b by omega) (h.nb.off (by omega)) h.aa.old A' Da',hn,h.nb,h.so,h.ne⟩
theorem DvAt.putB {B' : Sh} {Db' : Sx} (h:DvAt w p a b S A B D Da Db W) (hr:SR W W.heap.size B' Db') (hn:Db'.nw (b+1)):DvAt w p a b S A B' D Da Db' (set8s W b B' Db'):=by
 have hne:=h.ne
 exact ⟨h.sa.put_far (show b≠p by omega) h.so.2 h.bb.old B' Db',h.aa.put_far (show b≠a by omega) (h.na.off (by omega)) h.bb.old B' Db',h.bb.put hr (hn.off (by omega)),h.na,hn,h.so,h.ne⟩
theorem DvAt.out (h:DvAt w p a b S A B D Da Db W) (x:Int):SE2 w A B x (.returned (.tuple #[sv A Da,sv B Db,.int .i64 x])) W:=by
 have hne:=h.ne
 have ho:=h.sa.old
 exact ⟨Da,Db,rfl,h.na.low (by omega),h.nb.low (by omega),h.aa.sr,h.bb.sr,h.sa.bel⟩
theorem DvAt.start (hs:SR w w.heap.size S D):DvAt w w.heap.size (w.heap.size+1) (w.heap.size+1+1) S zS zS D zX zX (((w.alloc (.cells #[.bool S.lv,.int .i64 S.lo,.int .i64 S.hi,.slice D.A S.cs.length D.c,.int .i64 S.hd,.int .i64 S.sz,.slice D.A2 S.l.length D.c2,.slice D.A3 S.h.length D.c3] 33)).alloc (.cells #[.bool false,.int .i64 0,.int .i64 0,.slice none 0 0,.int .i64 0,.int .i64 0,.slice none 0 0,.slice none 0 0] 33)).alloc (.cells #[.bool false,.int .i64 0,.int .i64 0,.slice none 0 0,.int .i64 0,.int .i64 0,.slice none 0 0,.slice none 0 0] 33)):=by
 have t1:=T2.start hs (SR.zero (W:=w) (B:=w.heap.size))
 have b1:=t1.fa.bel
 have e2:((w.alloc (.cells #[.bool S.lv,.int .i64 S.lo,.int .i64 S.hi,.slice D.A S.cs.length D.c,.int .i64 S.hd,.int .i64 S.sz,.slice D.A2 S.l.length D.c2,.slice D.A3 S.h.length D.c3] 33)).alloc (.cells #[.bool false,.int .i64 0,.int .i64 0,.slice none 0 0,.int .i64 0,.int .i64 0,.slice none 0 0,.slice none 0 0] 33)).heap.size=w.heap.size+1+1:=by simp
 have a3:=SAt.start (w:=((w.alloc (.cells #[.bool S.lv,.int .i64 S.lo,.int .i64 S.hi,.slice D.A S.cs.length D.c,.int .i64 S.hd,.int .i64 S.sz,.slice D.A2 S.l.length D.c2,.slice D.A3 S.h.length D.c3] 33)).alloc (.cells #[.bool false,.int .i64 0,.int .i64 0,.slice none 0 0,.int .i64 0,.int .i64 0,.slice none 0 0,.slice none 0 0] 33))) (S:=zS) (D:=zX) 33 SR.zero
 rw [e2] at a3
 have b2:=(Below.refl w.heap.size w).trans (b1.trans (a3.bel.mono b1.size))
 exact ⟨t1.sa.alloc _,t1.fa.alloc _,⟨a3.s8,a3.sr,a3.off,b2,by omega⟩,zX_nw _,zX_nw _,⟨hs.offs (by omega),hs.offs (by omega)⟩,⟨by omega,by omega⟩⟩
end
abbrev D24 (p a b:Nat) (S A B:Sh) (D Da Db:Sx) (W:World):Prop:=K8 p S D W∧K8 a A Da W∧K8 b B Db W
theorem DvAt.k {w W:World} {p a b:Nat} {S A B:Sh} {D Da Db:Sx} (h:DvAt w p a b S A B D Da Db W):D24 p a b S A B D Da Db W:=⟨h.sa.k8,h.aa.k8,h.bb.k8⟩
set_option maxHeartbeats 8000000 in
set_option maxRecDepth 20000 in
theorem sdivide_any (S:Sh) (D:Sx) (mid:Int) (w:World) (hs:SR w w.heap.size S D) (h0:0≤S.hi) (h1:S.hi≤65535) (m0:0≤mid) (m1:mid≤65535) (h12:S.l.length≤1000) :
  Calls Tryz.prog 26 #[sv S D,.int .i64 mid] w (SE2 w (dvA S mid) (dvB S mid) (dvE S mid)):=by
 have H0:=Lh (DvAt.start hs)
 have HV:=Lh (fun A c W (k:SR W W.heap.size S D) (hn:Nl W W.heap.size (.slice A 1 c) [⟨mid,S.lo,S.hi - 1⟩])=>show Calls Tryz.prog 40 #[sv S D,.slice A 1 c] W (VlT W (dvE S mid)) by
  have:=sexam_any S D A 1 c [⟨mid,S.lo,S.hi - 1⟩] W k hn
  rw [show ([⟨mid,S.lo,S.hi - 1⟩]:List Rn).all Rn.ok=wi mid S.lo (S.hi - 1) by simp [Rn.ok]] at this
  exact this)
 have HN:=Lh (fun (W:World)=>nl_oned W ⟨mid,S.lo,S.hi - 1⟩ 82)
 have HCS:=Lh (fun W=>scap_any S D W)
 have HNA:=Lh (fun W=>snew_any S.cs.length S.lo mid W)
 have HNB:=Lh (fun W=>snew_any S.cs.length (mid+1) S.hi W)
 have HGA:=Lh (fun T D' W (q:SR W W.heap.size T D') (r:SR W W.heap.size S D)=>gather_any T S D' D W q r h12 (Nat.le_trans (lsF_le _ _ _) (by decide)))
 have hw1:wrap64 (S.hi - 1)=S.hi - 1:=IntWalk.wrap64_in _ (by omega)
 have hw2:IntKind.i64.wrap (mid+1)=mid+1:=by rw [IntWalk.i64_in _ (by omega)]
 have HRA:=Lh (show dvA S mid=if dvE S mid=0 then gthF (neS S.cs.length S.lo mid) S else zS from rfl)
 have HRB:=Lh (show dvB S mid=if dvE S mid=0 then gthF (neS S.cs.length (mid+1) S.hi) S else zS from rfl)
 generalize dvA S mid=RA at*
 generalize dvB S mid=RB at*
 generalize dvE S mid=x at*
 clear hs h0 h1 m0 m1 h12
 go_enter Tryz.func26,Tryz.ntmps26
 obtain ⟨p,hp⟩:∃ p,p=w.heap.size:=⟨_,rfl⟩
 obtain ⟨a,ha⟩:∃ p,p=w.heap.size+1:=⟨_,rfl⟩
 obtain ⟨b,hb⟩:∃ p,p=w.heap.size+1+1:=⟨_,rfl⟩
 go_upto_region 1 with (fail)
 rw [←hb,←ha,←hp]
 rw [←hb,←ha,←hp] at H0
 clear hp ha hb
 generalize (((w.alloc (.cells #[.bool S.lv,.int .i64 S.lo,.int .i64 S.hi,.slice D.A S.cs.length D.c,.int .i64 S.hd,.int .i64 S.sz,.slice D.A2 S.l.length D.c2,.slice D.A3 S.h.length D.c3] 33)).alloc (.cells #[.bool false,.int .i64 0,.int .i64 0,.slice none 0 0,.int .i64 0,.int .i64 0,.slice none 0 0,.slice none 0 0] 33)).alloc (.cells #[.bool false,.int .i64 0,.int .i64 0,.slice none 0 0,.int .i64 0,.int .i64 0,.slice none 0 0,.slice none 0 0] 33))=w1 at*
 have HA1:=Lh (H0.out.below ((Below.refl _ _).alloc (Nat.le_refl _) (.cells #[.int .i64 mid,.int .i64 S.lo,.int .i64 (S.hi - 1)] 82)))
 have HN1:=Lh (HN.out w1)
 obtain ⟨t0,t1,t2,t3,t4,t5,t6,t7,tl⟩:=H0.out.sa.s8.facts
 go_wp2_with fail
 clear t0 t1 t2 t3 t4 t5 t6 t7 tl
 refine (HV.out _ _ _ HA1.out.sa.sr (by have:=HN1.out;simpa using this)).mono ?_
 rintro e w2 ⟨rfl,hb⟩
 have H2:=Lh (HA1.out.below hb)
 clear hb HA1 HN1 H0 HN HV
 by_cases hx:x=0
 ·rw [hx,if_pos rfl] at HRA HRB
  rw [hx]
  have HA:=Lh HRA.out
  have HB:=Lh HRB.out
  have HX0:=Lh hx
  clear hx HRA HRB
  go_wp2_with fail
  generalize neS S.cs.length S.lo mid=A at*
  generalize neS S.cs.length (mid+1) S.hi=B at*
  generalize neE S.cs.length S.lo mid=ea at*
  generalize neE S.cs.length (mid+1) S.hi=eb at*
  have HK0:=Lh H2.out.k
  have HD0:=Lh (H2.out.below (Below.refl _ _).drew)
  have HK1:=Lh HD0.out.k
  obtain ⟨⟨t0,t1,t2,t3,t4,t5,t6,t7,tl⟩,⟨f0,f1,f2,f3,f4,f5,f6,f7⟩⟩:=H2.out.aa.s8.all
  go_region_held3 (fun W=>K8 p S D W)
   (first | with_reducible exact HK1.out.1 | with_reducible exact HK2.out.1 | with_reducible exact HK3.out.1 | with_reducible exact HK4.out.1 | with_reducible exact HK0.out.1)
   (first
   | (go_at_call 66;(with_reducible refine (HCS.out _).mono ?_);rintro e w3 ⟨rfl,hb⟩;have HD3:=Lh (HD0.out.below hb);have HK2:=Lh HD3.out.k;clear hb)
   | (go_at_call 31;(with_reducible refine (HNA.out _).mono ?_);rintro e w4 ⟨D4,rfl,hn4,hr4,hb⟩;have HD4:=Lh (HD3.out.below hb);have HK3:=Lh HD4.out.k;have HD5:=Lh (HD4.out.putA hr4 (hn4.low HD3.out.bb.lt));have HK4:=Lh HD5.out.k;obtain ⟨⟨t0,t1,t2,t3,t4,t5,t6,t7,tl⟩,⟨f0,f1,f2,f3,f4,f5,f6,f7⟩⟩:=HD4.out.aa.s8.all;clear hn4 hr4 hb))
  clear t0 t1 t2 t3 t4 t5 t6 t7 tl f0 f1 f2 f3 f4 f5 f6 f7 HD0 HD3 HD4 HK0 HK1 HK2 HK3 HK4 H2 HNA
  have H6:=Lh (show DvAt w p a b S A zS D D4 zX (((((((((w4.setCell ⟨a,0,none⟩ (.bool A.lv)).setCell ⟨a,1,none⟩ (.int .i64 A.lo)).setCell ⟨a,2,none⟩ (.int .i64 A.hi)).setCell ⟨a,3,none⟩ (.slice D4.A A.cs.length D4.c)).setCell ⟨a,4,none⟩ (.int .i64 A.hd)).setCell ⟨a,5,none⟩ (.int .i64 A.sz)).setCell ⟨a,6,none⟩ (.slice D4.A2 A.l.length D4.c2)).setCell ⟨a,7,none⟩ (.slice D4.A3 A.h.length D4.c3))) from HD5.out)
  clear HD5
  go_wp2_with fail
  generalize (((((((((w4.setCell ⟨a,0,none⟩ (.bool A.lv)).setCell ⟨a,1,none⟩ (.int .i64 A.lo)).setCell ⟨a,2,none⟩ (.int .i64 A.hi)).setCell ⟨a,3,none⟩ (.slice D4.A A.cs.length D4.c)).setCell ⟨a,4,none⟩ (.int .i64 A.hd)).setCell ⟨a,5,none⟩ (.int .i64 A.sz)).setCell ⟨a,6,none⟩ (.slice D4.A2 A.l.length D4.c2)).setCell ⟨a,7,none⟩ (.slice D4.A3 A.h.length D4.c3)))=w6 at*
  have HK0:=Lh H6.out.k
  have HD0:=Lh (H6.out.below (Below.refl _ _).drew)
  have HK1:=Lh HD0.out.k
  obtain ⟨⟨t0,t1,t2,t3,t4,t5,t6,t7,tl⟩,⟨f0,f1,f2,f3,f4,f5,f6,f7⟩⟩:=H6.out.bb.s8.all
  go_region_held3 (fun W=>K8 p S D W)
   (first | with_reducible exact HK1.out.1 | with_reducible exact HK2.out.1 | with_reducible exact HK3.out.1 | with_reducible exact HK4.out.1 | with_reducible exact HK0.out.1)
   (first
   | (go_at_call 66;(with_reducible refine (HCS.out _).mono ?_);rintro e w7 ⟨rfl,hb⟩;have HD3:=Lh (HD0.out.below hb);have HK2:=Lh HD3.out.k;clear hb)
   | (go_at_call 31;(with_reducible refine (HNB.out _).mono ?_);rintro e w8 ⟨D8,rfl,hn8,hr8,hb⟩;have HD4:=Lh (HD3.out.below hb);have HK3:=Lh HD4.out.k;have HD5:=Lh (HD4.out.putB hr8 (hn8.low HD3.out.bb.lt));have HK4:=Lh HD5.out.k;obtain ⟨⟨t0,t1,t2,t3,t4,t5,t6,t7,tl⟩,⟨f0,f1,f2,f3,f4,f5,f6,f7⟩⟩:=HD4.out.bb.s8.all;clear hn8 hr8 hb))
  clear t0 t1 t2 t3 t4 t5 t6 t7 tl f0 f1 f2 f3 f4 f5 f6 f7 HD0 HD3 HD4 HK0 HK1 HK2 HK3 HK4 H6 HNB HCS
  have H9:=Lh (show DvAt w p a b S A B D D4 D8 (((((((((w8.setCell ⟨b,0,none⟩ (.bool B.lv)).setCell ⟨b,1,none⟩ (.int .i64 B.lo)).setCell ⟨b,2,none⟩ (.int .i64 B.hi)).setCell ⟨b,3,none⟩ (.slice D8.A B.cs.length D8.c)).setCell ⟨b,4,none⟩ (.int .i64 B.hd)).setCell ⟨b,5,none⟩ (.int .i64 B.sz)).setCell ⟨b,6,none⟩ (.slice D8.A2 B.l.length D8.c2)).setCell ⟨b,7,none⟩ (.slice D8.A3 B.h.length D8.c3))) from HD5.out)
  clear HD5
  go_wp2_with fail
  generalize (((((((((w8.setCell ⟨b,0,none⟩ (.bool B.lv)).setCell ⟨b,1,none⟩ (.int .i64 B.lo)).setCell ⟨b,2,none⟩ (.int .i64 B.hi)).setCell ⟨b,3,none⟩ (.slice D8.A B.cs.length D8.c)).setCell ⟨b,4,none⟩ (.int .i64 B.hd)).setCell ⟨b,5,none⟩ (.int .i64 B.sz)).setCell ⟨b,6,none⟩ (.slice D8.A2 B.l.length D8.c2)).setCell ⟨b,7,none⟩ (.slice D8.A3 B.h.length D8.c3)))=w9 at*
  have HK0:=Lh H9.out.k
  have HD0:=Lh (H9.out.below (Below.refl _ _).drew)
  have HK1:=Lh HD0.out.k
  obtain ⟨⟨t0,t1,t2,t3,t4,t5,t6,t7,tl⟩,⟨f0,f1,f2,f3,f4,f5,f6,f7⟩⟩:=H9.out.aa.s8.all
  obtain ⟨⟨y0,y1,y2,y3,y4,y5,y6,y7,yl⟩,⟨g0,g1,g2,g3,g4,g5,g6,g7⟩⟩:=H9.out.bb.s8.all
  have HAB:=Lh (show ¬a=b∧¬b=a by have:=H9.out.ne;omega)
  obtain ⟨hab,hba⟩:=HAB.out
  obtain ⟨z0,z1,z2,z3,z4,z5,z6,z7,zl⟩:=H9.out.sa.s8.facts
  go_cut [6] (fun s6 wx=>s6=.int .i64 0∧∃ D10 D11,Hid (DvAt w p a b S RA RB D D10 D11 wx))
  case first=>
   refine wp_region_noPanic ?_
   refine wp_region_held_drew (S:=(fun W=>K8 p S D W)) (by kernel_rfl) ?hS0 (fun hHeld=>?_)
   case hS0=>(try dsimp only);(first | with_reducible exact HK1.out.1 | with_reducible exact HK2.out.1 | with_reducible exact HK3.out.1 | with_reducible exact HK4.out.1 | with_reducible exact HK5.out.1 | with_reducible exact HK0.out.1)
   refine wpAnyH_take (i:=1) (oi:=?o1) (v:=?v1) ?hi1 (by kernel_rfl) (by kernel_rfl) (by kernel_rfl) (fun _ _ _ h=>h) (Or.inl ⟨?hw1,?hy1⟩) (by assumption) ?_
   case hi1=>simp only [List.getElem?_toArray,List.getElem?_cons_succ,List.getElem?_cons_zero];exact rfl
   case hw1=>rfl
   case hy1=>intro w hSw;(try dsimp only at hSw);go_simp;all_goals (with_reducible rfl)
   try simp only [Act.put,List.setIfInBounds_toArray,List.set_cons_zero,List.set_cons_succ]
   refine wpAnyH_take (i:=4) (oi:=?o2) (v:=?v2) ?hi2 (by kernel_rfl) (by kernel_rfl) (by kernel_rfl) (fun _ _ _ h=>h) (Or.inl ⟨?hw2,?hy2⟩) (by assumption) ?_
   case hi2=>simp only [List.getElem?_toArray,List.getElem?_cons_succ,List.getElem?_cons_zero];exact rfl
   case hw2=>rfl
   case hy2=>intro w hSw;(try dsimp only at hSw);go_simp;all_goals (with_reducible rfl)
   try simp only [Act.put,List.setIfInBounds_toArray,List.set_cons_zero,List.set_cons_succ]
   refine wpAnyH_ready (rs:=[0,3]) (by kernel_rfl) (by simp) ?_
   refine AllReadyH.cons (o:=?o4) ?ho4 ?st4 ?mo4
   case ho4=>simp only [List.getElem?_toArray,List.getElem?_cons_zero];exact rfl
   case st4=>
    intro K hK
    go_simp
    refine hK.out _ _ ?hS4 (fun hHeld=>?_)
    ·(try dsimp only);(first | with_reducible exact HK1.out.1 | with_reducible exact HK2.out.1 | with_reducible exact HK3.out.1 | with_reducible exact HK4.out.1 | with_reducible exact HK5.out.1 | with_reducible exact HK0.out.1)
    clear hK K
    try simp only [Act.put,List.setIfInBounds_toArray,List.set_cons_zero,List.set_cons_succ]
    refine wpAnyH_ready (rs:=[2,3]) (by kernel_rfl) (by simp) ?_
    refine AllReadyH.cons (o:=?o6) ?ho6 ?st6 ?mo6
    case ho6=>simp only [List.getElem?_toArray,List.getElem?_cons_succ,List.getElem?_cons_zero];exact rfl
    case st6=>
     intro K hK
     go_simp
     (go_at_call 67;(first | ((with_reducible refine (HGA.out A D4 _ HD0.out.aa.sr HD0.out.sa.sr).mono ?_);rintro e w10 ⟨D10,rfl,hf10,hr10,hb⟩;rw [←HA.out] at hr10;rw [←HA.out];have HD3:=Lh (HD0.out.below hb);have HK2:=Lh HD3.out.k;have HR10:=Lh hr10;have HN10:=Lh (hf10 (b+1) HD0.out.bb.lt HD0.out.na);obtain ⟨⟨t0,t1,t2,t3,t4,t5,t6,t7,tl⟩,⟨f0,f1,f2,f3,f4,f5,f6,f7⟩⟩:=HD3.out.aa.s8.all;obtain ⟨⟨y0,y1,y2,y3,y4,y5,y6,y7,yl⟩,⟨g0,g1,g2,g3,g4,g5,g6,g7⟩⟩:=HD3.out.bb.s8.all;obtain ⟨z0,z1,z2,z3,z4,z5,z6,z7,zl⟩:=HD3.out.sa.s8.facts;clear hf10 hr10 hb) | ((with_reducible refine (HGA.out B D8 _ HD3.out.bb.sr HD3.out.sa.sr).mono ?_);rintro e w11 ⟨D11,rfl,hf11,hr11,hb⟩;rw [←HB.out] at hr11;rw [←HB.out];have HD4:=Lh (HD3.out.below hb);have HK3:=Lh HD4.out.k;have HN11:=Lh (hf11 (b+1) HD3.out.bb.lt HD3.out.nb);have HD5:=Lh (HD4.out.putA (HR10.out.up hb) HN10.out);have HK4:=Lh HD5.out.k;have HD6:=Lh (HD5.out.putB (SR.sets (HN11.out.off (show a<b+1 by have:=HD4.out.ne;omega)) (RA.l8 D10) 0 w11 hr11) HN11.out);have HK5:=Lh HD6.out.k;obtain ⟨⟨t0,t1,t2,t3,t4,t5,t6,t7,tl⟩,⟨f0,f1,f2,f3,f4,f5,f6,f7⟩⟩:=HD4.out.aa.s8.all;obtain ⟨⟨y0,y1,y2,y3,y4,y5,y6,y7,yl⟩,⟨g0,g1,g2,g3,g4,g5,g6,g7⟩⟩:=HD4.out.bb.s8.all;obtain ⟨z0,z1,z2,z3,z4,z5,z6,z7,zl⟩:=HD4.out.sa.s8.facts;clear hf11 hr11 hb)))
     first
      | (refine hK.out _ _ ?hS6 (fun hHeld=>?_))
      | (go_wp2_with fail;refine hK.out _ _ ?hT6 (fun hHeld=>?_))
     ·(try dsimp only);(first | with_reducible exact HK1.out.1 | with_reducible exact HK2.out.1 | with_reducible exact HK3.out.1 | with_reducible exact HK4.out.1 | with_reducible exact HK5.out.1 | with_reducible exact HK0.out.1)
     clear hK K
     try simp only [Act.put,List.setIfInBounds_toArray,List.set_cons_zero,List.set_cons_succ]
     refine wpAnyH_ready (rs:=[3]) (by kernel_rfl) (by simp) ?_
     refine AllReadyH.cons (o:=?o8) ?ho8 ?st8 AllReadyH.nil
     case ho8=>simp only [List.getElem?_toArray,List.getElem?_cons_succ,List.getElem?_cons_zero];exact rfl
     case st8=>
      intro K hK
      go_simp
      refine hK.out _ _ ?hS8 (fun hHeld=>?_)
      ·(try dsimp only);(first | with_reducible exact HK1.out.1 | with_reducible exact HK2.out.1 | with_reducible exact HK3.out.1 | with_reducible exact HK4.out.1 | with_reducible exact HK5.out.1 | with_reducible exact HK0.out.1)
      clear hK K
      try simp only [Act.put,List.setIfInBounds_toArray,List.set_cons_zero,List.set_cons_succ]
      refine wpAnyH_ready (rs:=[5]) (by kernel_rfl) (by simp) ?_
      refine AllReadyH.cons (o:=?o10) ?ho10 ?st10 AllReadyH.nil
      case ho10=>simp only [List.getElem?_toArray,List.getElem?_cons_succ,List.getElem?_cons_zero];exact rfl
      case st10=>
       intro K hK
       go_simp
       (go_at_call 67;(first | ((with_reducible refine (HGA.out A D4 _ HD0.out.aa.sr HD0.out.sa.sr).mono ?_);rintro e w10 ⟨D10,rfl,hf10,hr10,hb⟩;rw [←HA.out] at hr10;rw [←HA.out];have HD3:=Lh (HD0.out.below hb);have HK2:=Lh HD3.out.k;have HR10:=Lh hr10;have HN10:=Lh (hf10 (b+1) HD0.out.bb.lt HD0.out.na);obtain ⟨⟨t0,t1,t2,t3,t4,t5,t6,t7,tl⟩,⟨f0,f1,f2,f3,f4,f5,f6,f7⟩⟩:=HD3.out.aa.s8.all;obtain ⟨⟨y0,y1,y2,y3,y4,y5,y6,y7,yl⟩,⟨g0,g1,g2,g3,g4,g5,g6,g7⟩⟩:=HD3.out.bb.s8.all;obtain ⟨z0,z1,z2,z3,z4,z5,z6,z7,zl⟩:=HD3.out.sa.s8.facts;clear hf10 hr10 hb) | ((with_reducible refine (HGA.out B D8 _ HD3.out.bb.sr HD3.out.sa.sr).mono ?_);rintro e w11 ⟨D11,rfl,hf11,hr11,hb⟩;rw [←HB.out] at hr11;rw [←HB.out];have HD4:=Lh (HD3.out.below hb);have HK3:=Lh HD4.out.k;have HN11:=Lh (hf11 (b+1) HD3.out.bb.lt HD3.out.nb);have HD5:=Lh (HD4.out.putA (HR10.out.up hb) HN10.out);have HK4:=Lh HD5.out.k;have HD6:=Lh (HD5.out.putB (SR.sets (HN11.out.off (show a<b+1 by have:=HD4.out.ne;omega)) (RA.l8 D10) 0 w11 hr11) HN11.out);have HK5:=Lh HD6.out.k;obtain ⟨⟨t0,t1,t2,t3,t4,t5,t6,t7,tl⟩,⟨f0,f1,f2,f3,f4,f5,f6,f7⟩⟩:=HD4.out.aa.s8.all;obtain ⟨⟨y0,y1,y2,y3,y4,y5,y6,y7,yl⟩,⟨g0,g1,g2,g3,g4,g5,g6,g7⟩⟩:=HD4.out.bb.s8.all;obtain ⟨z0,z1,z2,z3,z4,z5,z6,z7,zl⟩:=HD4.out.sa.s8.facts;clear hf11 hr11 hb)))
       first
        | (refine hK.out _ _ ?hS10 (fun hHeld=>?_))
        | (go_wp2_with fail;refine hK.out _ _ ?hT10 (fun hHeld=>?_))
       ·(try dsimp only);(first | with_reducible exact HK1.out.1 | with_reducible exact HK2.out.1 | with_reducible exact HK3.out.1 | with_reducible exact HK4.out.1 | with_reducible exact HK5.out.1 | with_reducible exact HK0.out.1)
       clear hK K
       try simp only [Act.put,List.setIfInBounds_toArray,List.set_cons_zero,List.set_cons_succ]
       refine wpAnyH_ready (rs:=[6]) (by kernel_rfl) (by simp) ?_
       refine AllReadyH.cons (o:=?o12) ?ho12 ?st12 AllReadyH.nil
       case ho12=>simp only [List.getElem?_toArray,List.getElem?_cons_succ,List.getElem?_cons_zero];exact rfl
       case st12=>
        intro K hK
        go_simp
        refine hK.out _ _ ?hS12 (fun hHeld=>?_)
        ·(try dsimp only);(first | with_reducible exact HK1.out.1 | with_reducible exact HK2.out.1 | with_reducible exact HK3.out.1 | with_reducible exact HK4.out.1 | with_reducible exact HK5.out.1 | with_reducible exact HK0.out.1)
        clear hK K
        try simp only [Act.put,List.setIfInBounds_toArray,List.set_cons_zero,List.set_cons_succ]
        refine wpAnyH_ready (rs:=[7]) (by kernel_rfl) (by simp) ?_
        refine AllReadyH.cons (o:=?o14) ?ho14 ?st14 AllReadyH.nil
        case ho14=>simp only [List.getElem?_toArray,List.getElem?_cons_succ,List.getElem?_cons_zero];exact rfl
        case st14=>
         intro K hK
         go_simp
         refine hK.out _ _ ?hS14 (fun hHeld=>?_)
         ·(try dsimp only);(first | with_reducible exact HK1.out.1 | with_reducible exact HK2.out.1 | with_reducible exact HK3.out.1 | with_reducible exact HK4.out.1 | with_reducible exact HK5.out.1 | with_reducible exact HK0.out.1)
         clear hK K
         try simp only [Act.put,List.setIfInBounds_toArray,List.set_cons_zero,List.set_cons_succ]
         refine wpAnyH_take (i:=8) (oi:=?o15) (v:=?v15) ?hi15 (by kernel_rfl) (by kernel_rfl) (by kernel_rfl) (fun _ _ _ h=>h) (Or.inl ⟨?hw15,?hy15⟩) (by assumption) ?_
         case hi15=>simp only [List.getElem?_toArray,List.getElem?_cons_succ,List.getElem?_cons_zero];exact rfl
         case hw15=>rfl
         case hy15=>intro w hSw;(try dsimp only at hSw);go_simp;all_goals (with_reducible rfl)
         try simp only [Act.put,List.setIfInBounds_toArray,List.set_cons_zero,List.set_cons_succ]
         refine wpAnyH_done (by kernel_rfl) ?_ _
         refine NoPanic.normal ?_
         go_wp2_with fail
         go_meet
         exact ⟨rfl,D10,D11,HD6⟩
    case mo6=>
     refine AllReadyH.cons (o:=?o17) ?ho17 ?st17 AllReadyH.nil
     case ho17=>simp only [List.getElem?_toArray,List.getElem?_cons_succ,List.getElem?_cons_zero];exact rfl
     case st17=>
      intro K hK
      go_simp
      refine hK.out _ _ ?hS17 (fun hHeld=>?_)
      ·(try dsimp only);(first | with_reducible exact HK1.out.1 | with_reducible exact HK2.out.1 | with_reducible exact HK3.out.1 | with_reducible exact HK4.out.1 | with_reducible exact HK5.out.1 | with_reducible exact HK0.out.1)
      clear hK K
      try simp only [Act.put,List.setIfInBounds_toArray,List.set_cons_zero,List.set_cons_succ]
      refine wpAnyH_ready (rs:=[2]) (by kernel_rfl) (by simp) ?_
      refine AllReadyH.cons (o:=?o19) ?ho19 ?st19 AllReadyH.nil
      case ho19=>simp only [List.getElem?_toArray,List.getElem?_cons_succ,List.getElem?_cons_zero];exact rfl
      case st19=>
       intro K hK
       go_simp
       (go_at_call 67;(first | ((with_reducible refine (HGA.out A D4 _ HD0.out.aa.sr HD0.out.sa.sr).mono ?_);rintro e w10 ⟨D10,rfl,hf10,hr10,hb⟩;rw [←HA.out] at hr10;rw [←HA.out];have HD3:=Lh (HD0.out.below hb);have HK2:=Lh HD3.out.k;have HR10:=Lh hr10;have HN10:=Lh (hf10 (b+1) HD0.out.bb.lt HD0.out.na);obtain ⟨⟨t0,t1,t2,t3,t4,t5,t6,t7,tl⟩,⟨f0,f1,f2,f3,f4,f5,f6,f7⟩⟩:=HD3.out.aa.s8.all;obtain ⟨⟨y0,y1,y2,y3,y4,y5,y6,y7,yl⟩,⟨g0,g1,g2,g3,g4,g5,g6,g7⟩⟩:=HD3.out.bb.s8.all;obtain ⟨z0,z1,z2,z3,z4,z5,z6,z7,zl⟩:=HD3.out.sa.s8.facts;clear hf10 hr10 hb) | ((with_reducible refine (HGA.out B D8 _ HD3.out.bb.sr HD3.out.sa.sr).mono ?_);rintro e w11 ⟨D11,rfl,hf11,hr11,hb⟩;rw [←HB.out] at hr11;rw [←HB.out];have HD4:=Lh (HD3.out.below hb);have HK3:=Lh HD4.out.k;have HN11:=Lh (hf11 (b+1) HD3.out.bb.lt HD3.out.nb);have HD5:=Lh (HD4.out.putA (HR10.out.up hb) HN10.out);have HK4:=Lh HD5.out.k;have HD6:=Lh (HD5.out.putB (SR.sets (HN11.out.off (show a<b+1 by have:=HD4.out.ne;omega)) (RA.l8 D10) 0 w11 hr11) HN11.out);have HK5:=Lh HD6.out.k;obtain ⟨⟨t0,t1,t2,t3,t4,t5,t6,t7,tl⟩,⟨f0,f1,f2,f3,f4,f5,f6,f7⟩⟩:=HD4.out.aa.s8.all;obtain ⟨⟨y0,y1,y2,y3,y4,y5,y6,y7,yl⟩,⟨g0,g1,g2,g3,g4,g5,g6,g7⟩⟩:=HD4.out.bb.s8.all;obtain ⟨z0,z1,z2,z3,z4,z5,z6,z7,zl⟩:=HD4.out.sa.s8.facts;clear hf11 hr11 hb)))
       first
        | (refine hK.out _ _ ?hS19 (fun hHeld=>?_))
        | (go_wp2_with fail;refine hK.out _ _ ?hT19 (fun hHeld=>?_))
       ·(try dsimp only);(first | with_reducible exact HK1.out.1 | with_reducible exact HK2.out.1 | with_reducible exact HK3.out.1 | with_reducible exact HK4.out.1 | with_reducible exact HK5.out.1 | with_reducible exact HK0.out.1)
       clear hK K
       try simp only [Act.put,List.setIfInBounds_toArray,List.set_cons_zero,List.set_cons_succ]
       refine wpAnyH_ready (rs:=[5]) (by kernel_rfl) (by simp) ?_
       refine AllReadyH.cons (o:=?o21) ?ho21 ?st21 AllReadyH.nil
       case ho21=>simp only [List.getElem?_toArray,List.getElem?_cons_succ,List.getElem?_cons_zero];exact rfl
       case st21=>
        intro K hK
        go_simp
        (go_at_call 67;(first | ((with_reducible refine (HGA.out A D4 _ HD0.out.aa.sr HD0.out.sa.sr).mono ?_);rintro e w10 ⟨D10,rfl,hf10,hr10,hb⟩;rw [←HA.out] at hr10;rw [←HA.out];have HD3:=Lh (HD0.out.below hb);have HK2:=Lh HD3.out.k;have HR10:=Lh hr10;have HN10:=Lh (hf10 (b+1) HD0.out.bb.lt HD0.out.na);obtain ⟨⟨t0,t1,t2,t3,t4,t5,t6,t7,tl⟩,⟨f0,f1,f2,f3,f4,f5,f6,f7⟩⟩:=HD3.out.aa.s8.all;obtain ⟨⟨y0,y1,y2,y3,y4,y5,y6,y7,yl⟩,⟨g0,g1,g2,g3,g4,g5,g6,g7⟩⟩:=HD3.out.bb.s8.all;obtain ⟨z0,z1,z2,z3,z4,z5,z6,z7,zl⟩:=HD3.out.sa.s8.facts;clear hf10 hr10 hb) | ((with_reducible refine (HGA.out B D8 _ HD3.out.bb.sr HD3.out.sa.sr).mono ?_);rintro e w11 ⟨D11,rfl,hf11,hr11,hb⟩;rw [←HB.out] at hr11;rw [←HB.out];have HD4:=Lh (HD3.out.below hb);have HK3:=Lh HD4.out.k;have HN11:=Lh (hf11 (b+1) HD3.out.bb.lt HD3.out.nb);have HD5:=Lh (HD4.out.putA (HR10.out.up hb) HN10.out);have HK4:=Lh HD5.out.k;have HD6:=Lh (HD5.out.putB (SR.sets (HN11.out.off (show a<b+1 by have:=HD4.out.ne;omega)) (RA.l8 D10) 0 w11 hr11) HN11.out);have HK5:=Lh HD6.out.k;obtain ⟨⟨t0,t1,t2,t3,t4,t5,t6,t7,tl⟩,⟨f0,f1,f2,f3,f4,f5,f6,f7⟩⟩:=HD4.out.aa.s8.all;obtain ⟨⟨y0,y1,y2,y3,y4,y5,y6,y7,yl⟩,⟨g0,g1,g2,g3,g4,g5,g6,g7⟩⟩:=HD4.out.bb.s8.all;obtain ⟨z0,z1,z2,z3,z4,z5,z6,z7,zl⟩:=HD4.out.sa.s8.facts;clear hf11 hr11 hb)))
        first
         | (refine hK.out _ _ ?hS21 (fun hHeld=>?_))
         | (go_wp2_with fail;refine hK.out _ _ ?hT21 (fun hHeld=>?_))
        ·(try dsimp only);(first | with_reducible exact HK1.out.1 | with_reducible exact HK2.out.1 | with_reducible exact HK3.out.1 | with_reducible exact HK4.out.1 | with_reducible exact HK5.out.1 | with_reducible exact HK0.out.1)
        clear hK K
        try simp only [Act.put,List.setIfInBounds_toArray,List.set_cons_zero,List.set_cons_succ]
        refine wpAnyH_ready (rs:=[6]) (by kernel_rfl) (by simp) ?_
        refine AllReadyH.cons (o:=?o23) ?ho23 ?st23 AllReadyH.nil
        case ho23=>simp only [List.getElem?_toArray,List.getElem?_cons_succ,List.getElem?_cons_zero];exact rfl
        case st23=>
         intro K hK
         go_simp
         refine hK.out _ _ ?hS23 (fun hHeld=>?_)
         ·(try dsimp only);(first | with_reducible exact HK1.out.1 | with_reducible exact HK2.out.1 | with_reducible exact HK3.out.1 | with_reducible exact HK4.out.1 | with_reducible exact HK5.out.1 | with_reducible exact HK0.out.1)
         clear hK K
         try simp only [Act.put,List.setIfInBounds_toArray,List.set_cons_zero,List.set_cons_succ]
         refine wpAnyH_ready (rs:=[7]) (by kernel_rfl) (by simp) ?_
         refine AllReadyH.cons (o:=?o25) ?ho25 ?st25 AllReadyH.nil
         case ho25=>simp only [List.getElem?_toArray,List.getElem?_cons_succ,List.getElem?_cons_zero];exact rfl
         case st25=>
          intro K hK
          go_simp
          refine hK.out _ _ ?hS25 (fun hHeld=>?_)
          ·(try dsimp only);(first | with_reducible exact HK1.out.1 | with_reducible exact HK2.out.1 | with_reducible exact HK3.out.1 | with_reducible exact HK4.out.1 | with_reducible exact HK5.out.1 | with_reducible exact HK0.out.1)
          clear hK K
          try simp only [Act.put,List.setIfInBounds_toArray,List.set_cons_zero,List.set_cons_succ]
          refine wpAnyH_take (i:=8) (oi:=?o26) (v:=?v26) ?hi26 (by kernel_rfl) (by kernel_rfl) (by kernel_rfl) (fun _ _ _ h=>h) (Or.inl ⟨?hw26,?hy26⟩) (by assumption) ?_
          case hi26=>simp only [List.getElem?_toArray,List.getElem?_cons_succ,List.getElem?_cons_zero];exact rfl
          case hw26=>rfl
          case hy26=>intro w hSw;(try dsimp only at hSw);go_simp;all_goals (with_reducible rfl)
          try simp only [Act.put,List.setIfInBounds_toArray,List.set_cons_zero,List.set_cons_succ]
          refine wpAnyH_done (by kernel_rfl) ?_ _
          refine NoPanic.normal ?_
          go_wp2_with fail
          go_meet
          exact ⟨rfl,D10,D11,HD6⟩
   case mo4=>
    refine AllReadyH.cons (o:=?o28) ?ho28 ?st28 AllReadyH.nil
    case ho28=>simp only [List.getElem?_toArray,List.getElem?_cons_succ,List.getElem?_cons_zero];exact rfl
    case st28=>
     intro K hK
     go_simp
     refine hK.out _ _ ?hS28 (fun hHeld=>?_)
     ·(try dsimp only);(first | with_reducible exact HK1.out.1 | with_reducible exact HK2.out.1 | with_reducible exact HK3.out.1 | with_reducible exact HK4.out.1 | with_reducible exact HK5.out.1 | with_reducible exact HK0.out.1)
     clear hK K
     try simp only [Act.put,List.setIfInBounds_toArray,List.set_cons_zero,List.set_cons_succ]
     refine wpAnyH_ready (rs:=[0]) (by kernel_rfl) (by simp) ?_
     refine AllReadyH.cons (o:=?o30) ?ho30 ?st30 AllReadyH.nil
     case ho30=>simp only [List.getElem?_toArray,List.getElem?_cons_zero];exact rfl
     case st30=>
      intro K hK
      go_simp
      refine hK.out _ _ ?hS30 (fun hHeld=>?_)
      ·(try dsimp only);(first | with_reducible exact HK1.out.1 | with_reducible exact HK2.out.1 | with_reducible exact HK3.out.1 | with_reducible exact HK4.out.1 | with_reducible exact HK5.out.1 | with_reducible exact HK0.out.1)
      clear hK K
      try simp only [Act.put,List.setIfInBounds_toArray,List.set_cons_zero,List.set_cons_succ]
      refine wpAnyH_ready (rs:=[2]) (by kernel_rfl) (by simp) ?_
      refine AllReadyH.cons (o:=?o32) ?ho32 ?st32 AllReadyH.nil
      case ho32=>simp only [List.getElem?_toArray,List.getElem?_cons_succ,List.getElem?_cons_zero];exact rfl
      case st32=>
       intro K hK
       go_simp
       (go_at_call 67;(first | ((with_reducible refine (HGA.out A D4 _ HD0.out.aa.sr HD0.out.sa.sr).mono ?_);rintro e w10 ⟨D10,rfl,hf10,hr10,hb⟩;rw [←HA.out] at hr10;rw [←HA.out];have HD3:=Lh (HD0.out.below hb);have HK2:=Lh HD3.out.k;have HR10:=Lh hr10;have HN10:=Lh (hf10 (b+1) HD0.out.bb.lt HD0.out.na);obtain ⟨⟨t0,t1,t2,t3,t4,t5,t6,t7,tl⟩,⟨f0,f1,f2,f3,f4,f5,f6,f7⟩⟩:=HD3.out.aa.s8.all;obtain ⟨⟨y0,y1,y2,y3,y4,y5,y6,y7,yl⟩,⟨g0,g1,g2,g3,g4,g5,g6,g7⟩⟩:=HD3.out.bb.s8.all;obtain ⟨z0,z1,z2,z3,z4,z5,z6,z7,zl⟩:=HD3.out.sa.s8.facts;clear hf10 hr10 hb) | ((with_reducible refine (HGA.out B D8 _ HD3.out.bb.sr HD3.out.sa.sr).mono ?_);rintro e w11 ⟨D11,rfl,hf11,hr11,hb⟩;rw [←HB.out] at hr11;rw [←HB.out];have HD4:=Lh (HD3.out.below hb);have HK3:=Lh HD4.out.k;have HN11:=Lh (hf11 (b+1) HD3.out.bb.lt HD3.out.nb);have HD5:=Lh (HD4.out.putA (HR10.out.up hb) HN10.out);have HK4:=Lh HD5.out.k;have HD6:=Lh (HD5.out.putB (SR.sets (HN11.out.off (show a<b+1 by have:=HD4.out.ne;omega)) (RA.l8 D10) 0 w11 hr11) HN11.out);have HK5:=Lh HD6.out.k;obtain ⟨⟨t0,t1,t2,t3,t4,t5,t6,t7,tl⟩,⟨f0,f1,f2,f3,f4,f5,f6,f7⟩⟩:=HD4.out.aa.s8.all;obtain ⟨⟨y0,y1,y2,y3,y4,y5,y6,y7,yl⟩,⟨g0,g1,g2,g3,g4,g5,g6,g7⟩⟩:=HD4.out.bb.s8.all;obtain ⟨z0,z1,z2,z3,z4,z5,z6,z7,zl⟩:=HD4.out.sa.s8.facts;clear hf11 hr11 hb)))
       first
        | (refine hK.out _ _ ?hS32 (fun hHeld=>?_))
        | (go_wp2_with fail;refine hK.out _ _ ?hT32 (fun hHeld=>?_))
       ·(try dsimp only);(first | with_reducible exact HK1.out.1 | with_reducible exact HK2.out.1 | with_reducible exact HK3.out.1 | with_reducible exact HK4.out.1 | with_reducible exact HK5.out.1 | with_reducible exact HK0.out.1)
       clear hK K
       try simp only [Act.put,List.setIfInBounds_toArray,List.set_cons_zero,List.set_cons_succ]
       refine wpAnyH_ready (rs:=[5]) (by kernel_rfl) (by simp) ?_
       refine AllReadyH.cons (o:=?o34) ?ho34 ?st34 AllReadyH.nil
       case ho34=>simp only [List.getElem?_toArray,List.getElem?_cons_succ,List.getElem?_cons_zero];exact rfl
       case st34=>
        intro K hK
        go_simp
        (go_at_call 67;(first | ((with_reducible refine (HGA.out A D4 _ HD0.out.aa.sr HD0.out.sa.sr).mono ?_);rintro e w10 ⟨D10,rfl,hf10,hr10,hb⟩;rw [←HA.out] at hr10;rw [←HA.out];have HD3:=Lh (HD0.out.below hb);have HK2:=Lh HD3.out.k;have HR10:=Lh hr10;have HN10:=Lh (hf10 (b+1) HD0.out.bb.lt HD0.out.na);obtain ⟨⟨t0,t1,t2,t3,t4,t5,t6,t7,tl⟩,⟨f0,f1,f2,f3,f4,f5,f6,f7⟩⟩:=HD3.out.aa.s8.all;obtain ⟨⟨y0,y1,y2,y3,y4,y5,y6,y7,yl⟩,⟨g0,g1,g2,g3,g4,g5,g6,g7⟩⟩:=HD3.out.bb.s8.all;obtain ⟨z0,z1,z2,z3,z4,z5,z6,z7,zl⟩:=HD3.out.sa.s8.facts;clear hf10 hr10 hb) | ((with_reducible refine (HGA.out B D8 _ HD3.out.bb.sr HD3.out.sa.sr).mono ?_);rintro e w11 ⟨D11,rfl,hf11,hr11,hb⟩;rw [←HB.out] at hr11;rw [←HB.out];have HD4:=Lh (HD3.out.below hb);have HK3:=Lh HD4.out.k;have HN11:=Lh (hf11 (b+1) HD3.out.bb.lt HD3.out.nb);have HD5:=Lh (HD4.out.putA (HR10.out.up hb) HN10.out);have HK4:=Lh HD5.out.k;have HD6:=Lh (HD5.out.putB (SR.sets (HN11.out.off (show a<b+1 by have:=HD4.out.ne;omega)) (RA.l8 D10) 0 w11 hr11) HN11.out);have HK5:=Lh HD6.out.k;obtain ⟨⟨t0,t1,t2,t3,t4,t5,t6,t7,tl⟩,⟨f0,f1,f2,f3,f4,f5,f6,f7⟩⟩:=HD4.out.aa.s8.all;obtain ⟨⟨y0,y1,y2,y3,y4,y5,y6,y7,yl⟩,⟨g0,g1,g2,g3,g4,g5,g6,g7⟩⟩:=HD4.out.bb.s8.all;obtain ⟨z0,z1,z2,z3,z4,z5,z6,z7,zl⟩:=HD4.out.sa.s8.facts;clear hf11 hr11 hb)))
        first
         | (refine hK.out _ _ ?hS34 (fun hHeld=>?_))
         | (go_wp2_with fail;refine hK.out _ _ ?hT34 (fun hHeld=>?_))
        ·(try dsimp only);(first | with_reducible exact HK1.out.1 | with_reducible exact HK2.out.1 | with_reducible exact HK3.out.1 | with_reducible exact HK4.out.1 | with_reducible exact HK5.out.1 | with_reducible exact HK0.out.1)
        clear hK K
        try simp only [Act.put,List.setIfInBounds_toArray,List.set_cons_zero,List.set_cons_succ]
        refine wpAnyH_ready (rs:=[6]) (by kernel_rfl) (by simp) ?_
        refine AllReadyH.cons (o:=?o36) ?ho36 ?st36 AllReadyH.nil
        case ho36=>simp only [List.getElem?_toArray,List.getElem?_cons_succ,List.getElem?_cons_zero];exact rfl
        case st36=>
         intro K hK
         go_simp
         refine hK.out _ _ ?hS36 (fun hHeld=>?_)
         ·(try dsimp only);(first | with_reducible exact HK1.out.1 | with_reducible exact HK2.out.1 | with_reducible exact HK3.out.1 | with_reducible exact HK4.out.1 | with_reducible exact HK5.out.1 | with_reducible exact HK0.out.1)
         clear hK K
         try simp only [Act.put,List.setIfInBounds_toArray,List.set_cons_zero,List.set_cons_succ]
         refine wpAnyH_ready (rs:=[7]) (by kernel_rfl) (by simp) ?_
         refine AllReadyH.cons (o:=?o38) ?ho38 ?st38 AllReadyH.nil
         case ho38=>simp only [List.getElem?_toArray,List.getElem?_cons_succ,List.getElem?_cons_zero];exact rfl
         case st38=>
          intro K hK
          go_simp
          refine hK.out _ _ ?hS38 (fun hHeld=>?_)
          ·(try dsimp only);(first | with_reducible exact HK1.out.1 | with_reducible exact HK2.out.1 | with_reducible exact HK3.out.1 | with_reducible exact HK4.out.1 | with_reducible exact HK5.out.1 | with_reducible exact HK0.out.1)
          clear hK K
          try simp only [Act.put,List.setIfInBounds_toArray,List.set_cons_zero,List.set_cons_succ]
          refine wpAnyH_take (i:=8) (oi:=?o39) (v:=?v39) ?hi39 (by kernel_rfl) (by kernel_rfl) (by kernel_rfl) (fun _ _ _ h=>h) (Or.inl ⟨?hw39,?hy39⟩) (by assumption) ?_
          case hi39=>simp only [List.getElem?_toArray,List.getElem?_cons_succ,List.getElem?_cons_zero];exact rfl
          case hw39=>rfl
          case hy39=>intro w hSw;(try dsimp only at hSw);go_simp;all_goals (with_reducible rfl)
          try simp only [Act.put,List.setIfInBounds_toArray,List.set_cons_zero,List.set_cons_succ]
          refine wpAnyH_done (by kernel_rfl) ?_ _
          refine NoPanic.normal ?_
          go_wp2_with fail
          go_meet
          exact ⟨rfl,D10,D11,HD6⟩
  case rest=>
   clear t0 t1 t2 t3 t4 t5 t6 t7 tl f0 f1 f2 f3 f4 f5 f6 f7 y0 y1 y2 y3 y4 y5 y6 y7 yl g0 g1 g2 g3 g4 g5 g6 g7 z0 z1 z2 z3 z4 z5 z6 z7 zl HK0 HD0 HK1 H9
   obtain ⟨rfl,D10,D11,H12⟩:=hcut
   obtain ⟨⟨t0,t1,t2,t3,t4,t5,t6,t7,tl⟩,⟨f0,f1,f2,f3,f4,f5,f6,f7⟩⟩:=H12.out.aa.s8.all
   obtain ⟨⟨y0,y1,y2,y3,y4,y5,y6,y7,yl⟩,⟨g0,g1,g2,g3,g4,g5,g6,g7⟩⟩:=H12.out.bb.s8.all
   go_wp2
   exact bodyPost_ret (v:=.tuple #[sv RA D10,sv RB D11,.int .i64 0]) (by simp only [results,Tryz.results26];go_simp <;> rfl) rfl (by rw [HX0.out];exact H12.out.out 0)
 ·have hxb:(x != 0)=true:=bne_iff_ne.2 hx
  rw [if_neg hx] at HRA HRB
  have HA:=Lh HRA.out
  have HB:=Lh HRB.out
  clear hx HRA HRB
  have H3:=Lh (H2.out.putA SR.zero (zX_nw _))
  have H4:=Lh (H3.out.putB SR.zero (zX_nw _))
  have HF:=Lh (show SE2 w RA RB x (.returned (.tuple #[sv zS zX,sv zS zX,.int .i64 x])) (set8s (set8s w2 a zS zX) b zS zX) from by
   rw [HA.out,HB.out]
   exact H4.out.out x)
  obtain ⟨⟨t0,t1,t2,t3,t4,t5,t6,t7,tl⟩,⟨f0,f1,f2,f3,f4,f5,f6,f7⟩⟩:=H2.out.aa.s8.all
  obtain ⟨⟨y0,y1,y2,y3,y4,y5,y6,y7,yl⟩,⟨g0,g1,g2,g3,g4,g5,g6,g7⟩⟩:=H2.out.bb.s8.all
  have HAB:=Lh (show ¬a=b∧¬b=a by have:=H2.out.ne;omega)
  obtain ⟨hab,hba⟩:=HAB.out
  go_wp2
  exact bodyPost_ret (v:=.tuple #[.agg #[.bool false,.int .i64 0,.int .i64 0,.slice none 0 0,.int .i64 0,.int .i64 0,.slice none 0 0,.slice none 0 0],.agg #[.bool false,.int .i64 0,.int .i64 0,.slice none 0 0,.int .i64 0,.int .i64 0,.slice none 0 0,.slice none 0 0],.int .i64 x]) (by simp only [results,Tryz.results26];go_simp <;> rfl) rfl HF.out
end Go.Proofs.YtncgbldcjfbknaaGreat
/- Plain: the halves of a valid shard, and what uniting them gives. -/
namespace Go.Proofs.YtncgbldcjfbknaaGreat
open Go.RowKit
set_option linter.unusedVariables false
theorem asc_eq:∀ {l m:List Le},Asc Le.id l→Asc Le.id m→l.Perm m→l=m
 | [],m,_,_,p=>(List.Perm.eq_nil p.symm).symm
 | a::l,[],_,_,p=>by have:=p.length_eq;simp at this
 | a::l,b::m,ha,hb,p=>by
  have ha':=List.pairwise_cons.1 ha
  have hb':=List.pairwise_cons.1 hb
  have e:a=b:=by
   rcases List.mem_cons.1 (p.mem_iff.1 (List.mem_cons_self ..)) with e | e
   ·exact e
   ·rcases List.mem_cons.1 (p.mem_iff.2 (List.mem_cons_self ..)) with e' | e'
    ·exact e'.symm
    ·have h1:=ha'.1 b e'
     have h2:=hb'.1 a e
     omega
  subst e
  rw [asc_eq ha'.2 hb'.2 ((List.perm_cons a).1 p)]
theorem gd_one {l:List Msg} (h:Gd l) {M N:Msg} (hM:M∈l) (hN:N∈l) (e:N.id=M.id):N=M:=by
 obtain ⟨i,hi,rfl⟩:=List.mem_iff_getElem.1 hM
 obtain ⟨j,hj,rfl⟩:=List.mem_iff_getElem.1 hN
 have hp:=List.pairwise_iff_getElem.1 ((dup_pair l).1 h.2)
 rcases Nat.lt_trichotomy i j with h1 | h1 | h1
 ·exact absurd e.symm (hp i j hi hj h1)
 ·subst h1;rfl
 ·exact absurd e (hp j i hj hi h1)
theorem filt_perm (l:List Msg) (p q:Msg→Bool) (h:∀ M∈l,q M = !p M):(l.filter p++l.filter q).Perm l:=by
 rw [show l.filter q=l.filter (fun M=>!p M) from List.filter_congr h]
 exact List.filter_append_perm p l
theorem filt_permL (l:List Le) (p q:Msg→Bool) (h:∀ x∈l,q x.m = !p x.m):(l.filter (fun x=>q x.m)++l.filter (fun x=>p x.m)).Perm l:=by
 rw [show l.filter (fun x=>q x.m)=l.filter (fun x=>!p x.m) from List.filter_congr h]
 exact List.perm_append_comm.trans (List.filter_append_perm (fun x=>p x.m) l)
theorem filt_al (V:Vs) (p:Msg→Bool):V.al.filter p=V.L.filter p++(V.l.filter (fun x=>p x.m)).map Le.m:=by
 show (V.L++V.l.map Le.m).filter p=_
 rw [List.filter_append,List.filter_map]
 rfl
/-- An empty part of a valid shard. -/
def Vs.part (V:Vs) (lo hi:Int):Vs:=⟨lo,hi,V.n,0,[],[],[]⟩
section
variable {V:Vs} {lo hi:Int}
theorem part_ok (k:V.Ok) (h:0≤lo∧lo≤hi∧hi<65536):(V.part lo hi).Ok:=
 ⟨k.n1,k.n2,by have:=k.n1;show 0<V.n;omega,TbOk.nil,h,by show 0+0≤V.n;omega,⟨fun M h=>(by cases h),fun ⟨i,j,hi,_⟩=>absurd hi (Nat.not_lt_zero _)⟩,fun M h=>(by cases h)⟩
theorem part_ne (k:V.Ok) (h:0≤lo∧lo≤hi∧hi<65536):neS V.sh.cs.length lo hi=(V.part lo hi).sh:=by
 have e:V.sh.cs.length=V.n:=fil_len _ _ _
 obtain ⟨e1,e2⟩:=nwC_fil k.n1 k.n2 0 (by have:=k.n1;omega)
 rw [e]
 have hE:neE (V.n:Int) lo hi=0:=by
  unfold neE
  rw [if_neg (by rw [e2];simp),if_pos (spB_iff.2 h)]
 unfold neS
 rw [if_pos hE,e1]
 rfl
/-- What a part gathers. -/
theorem part_gth (k:V.Ok) (h:0≤lo∧lo≤hi∧hi<65536):∃ A:Vs,A.Ok∧gthF (neS V.sh.cs.length lo hi) V.sh=A.sh∧A.lo=lo∧A.hi=hi∧A.n=V.n∧A.L=V.L.filter (V.part lo hi).has∧A.l.Perm (V.l.filter (fun x=>(V.part lo hi).has x.m))∧A.al.Perm (V.al.filter (V.part lo hi).has):=by
 have hgp:Gd (V.l.map Le.m++V.L):=gd_perm (List.perm_append_comm (l₁:=V.L) (l₂:=V.l.map Le.m)) k.gd
 have hg:Gd ((V.l.filter (fun x=>(V.part lo hi).has x.m)).map Le.m++(V.L.filter (V.part lo hi).has++(V.part lo hi).al)):=by
  rw [show (V.part lo hi).al=[] from rfl,List.append_nil]
  exact gd_sub ((List.filter_sublist.map _).append List.filter_sublist) hgp
 have h1:(V.L.filter (V.part lo hi).has).length≤V.L.length:=List.length_filter_le _ _
 have h2:(V.l.filter (fun x=>(V.part lo hi).has x.m)).length≤V.l.length:=List.length_filter_le _ _
 obtain ⟨A,ka,e,q1,q2,q3,q4,q5,q6⟩:=gth_ok (part_ok k h) k hg (by have:=k.room;show 0+0+_+_≤V.n;omega)
 have q5' : A.L=V.L.filter (V.part lo hi).has:=by rw [q5];rfl
 have q6' : A.l.Perm (V.l.filter (fun x=>(V.part lo hi).has x.m)):=by
  have:=q6;rw [show (V.part lo hi).l=[] from rfl,List.append_nil] at this;exact this
 refine ⟨A,ka,by rw [part_ne k h];exact e,q1,q2,q3,q5',q6',?_⟩
 rw [filt_al]
 show (A.L++A.l.map Le.m).Perm _
 rw [q5']
 exact (q6'.map _).append_left _
end
theorem stF_vs {V:Vs} (k:V.Ok):stF V.sh=(V.L.length:Int)+V.l.length:=if_pos (by rw [k.ex true];rfl)
/-- All that ShardHalves asks. -/
theorem hv_ok {V:Vs} {mid:Int} (k:V.Ok) (m0:V.lo≤mid) (m1:mid<V.hi):∃ A B Y:Vs,(A.Ok∧B.Ok∧Y.Ok)∧(dvE V.sh mid=0∧dvA V.sh mid=A.sh∧dvB V.sh mid=B.sh)∧(A.hi+1=B.lo∧A.n=V.n∧A.L.length+A.l.length+(B.L.length+B.l.length)=V.L.length+V.l.length)∧
  ((∀ M∈V.al,(∃ N∈A.al,N.id=M.id)↔M.rt≤mid)∧(∀ M∈V.al,(∃ N∈B.al,N.id=M.id)↔¬M.rt≤mid))∧dpB (A.al++B.al)=false∧(A.al++B.al).length≤1000∧gthF (A.sh.sp A.lo B.hi) B.sh=Y.sh∧(Y.lo=V.lo∧Y.hi=V.hi∧idsF Y.al=idsF V.al∧Y.l=V.l):=by
 have hsp:=k.sp
 obtain ⟨A,ka,ea,a1,a2,a3,a5,a6,a7⟩:=part_gth k (lo:=V.lo) (hi:=mid) ⟨by omega,m0,by omega⟩
 obtain ⟨B,kb,eb,b1,b2,b3,b5,b6,b7⟩:=part_gth k (lo:=mid+1) (hi:=V.hi) ⟨by omega,by omega,by omega⟩
 have hpA:∀ M∈V.al,((V.part V.lo mid).has M=true↔M.rt≤mid):=fun M hM=>by
  rw [has_iff]
  have:=k.own M hM
  show V.lo≤M.rt∧M.rt≤mid↔_
  omega
 have hpB:∀ M∈V.al,((V.part (mid+1) V.hi).has M=true↔¬M.rt≤mid):=fun M hM=>by
  rw [has_iff]
  have:=k.own M hM
  show mid+1≤M.rt∧M.rt≤V.hi↔_
  omega
 have hno:∀ M∈V.al,(V.part (mid+1) V.hi).has M = !(V.part V.lo mid).has M:=fun M hM=>by
  have h1:=hpA M hM
  have h2:=hpB M hM
  cases e1:(V.part V.lo mid).has M <;> cases e2:(V.part (mid+1) V.hi).has M <;> simp_all
 have hp:(A.al++B.al).Perm V.al:=(a7.append b7).trans (filt_perm V.al _ _ hno)
 have hpl:(B.l++A.l).Perm V.l:=(b6.append a6).trans (filt_permL V.l _ _ (fun x hx=>hno x.m (List.mem_append_right _ (List.mem_map.2 ⟨x,hx,rfl⟩))))
 have hlen:A.L.length+A.l.length+(B.L.length+B.l.length)=V.L.length+V.l.length:=by
  have:=hp.length_eq
  simp only [List.length_append,Vs.al,List.length_map] at this
  omega
 have hmA:∀ N,N∈A.al↔N∈V.al∧N.rt≤mid:=fun N=>by
  rw [a7.mem_iff,List.mem_filter]
  exact ⟨fun h=>⟨h.1,(hpA N h.1).1 h.2⟩,fun h=>⟨h.1,(hpA N h.1).2 h.2⟩⟩
 have hmB:∀ N,N∈B.al↔N∈V.al∧¬N.rt≤mid:=fun N=>by
  rw [b7.mem_iff,List.mem_filter]
  exact ⟨fun h=>⟨h.1,(hpB N h.1).1 h.2⟩,fun h=>⟨h.1,(hpB N h.1).2 h.2⟩⟩
 have hgab:Gd (A.al++B.al):=gd_perm hp.symm k.gd
 -- uniting
 have kU:(Vs.mk A.lo B.hi A.n A.hd A.L A.l A.h).Ok:=⟨ka.n1,ka.n2,ka.hh,ka.tb,by rw [a1,b2];exact hsp,ka.room,ka.gd,fun M hM=>by
  have h1:=ka.own M hM
  rw [a1,a2] at h1
  show A.lo≤M.rt∧M.rt≤B.hi
  rw [a1,b2]
  omega⟩
 have hall:∀ M∈B.al,(Vs.mk A.lo B.hi A.n A.hd A.L A.l A.h).has M=true:=fun M hM=>by
  rw [has_iff]
  have h1:=kb.own M hM
  rw [b1,b2] at h1
  show A.lo≤M.rt∧M.rt≤B.hi
  rw [a1,b2]
  omega
 have f1:B.L.filter (Vs.mk A.lo B.hi A.n A.hd A.L A.l A.h).has=B.L:=List.filter_eq_self.2 fun M hM=>hall M (List.mem_append_left _ hM)
 have f2:B.l.filter (fun x=>(Vs.mk A.lo B.hi A.n A.hd A.L A.l A.h).has x.m)=B.l:=List.filter_eq_self.2 fun x hx=>hall x.m (List.mem_append_right _ (List.mem_map.2 ⟨x,hx,rfl⟩))
 have hq:(A.al++B.al).Perm (B.l.map Le.m++(B.L++A.al)):=by
  show (A.al++(B.L++B.l.map Le.m)).Perm _
  rw [←List.append_assoc]
  exact List.perm_append_comm.trans ((List.perm_append_comm (l₁:=A.al) (l₂:=B.L)).append_left _)
 obtain ⟨Y,ky,ey,y1,y2,y3,y4,y5,y6⟩:=gth_ok kU kb (by rw [f1,f2];exact gd_perm hq hgab) (by rw [f1,f2];have:=k.room;show A.L.length+A.l.length+B.L.length+B.l.length≤A.n;omega)
 rw [f2] at y6
 rw [f1] at y5
 have hY:Y.al.Perm V.al:=by
  refine List.Perm.trans ?_ hp
  show (Y.L++Y.l.map Le.m).Perm _
  rw [y5]
  refine (((y6.map Le.m).append_left (A.L++B.L))).trans ?_
  rw [List.map_append]
  show (A.L++B.L++(B.l.map Le.m++A.l.map Le.m)).Perm (A.L++A.l.map Le.m++(B.L++B.l.map Le.m))
  rw [List.append_assoc,List.append_assoc]
  refine List.Perm.append_left _ ?_
  rw [←List.append_assoc]
  exact List.perm_append_comm
 have hd:dvE V.sh mid=0:=by
  unfold dvE
  rw [k.ex]
  exact if_pos (wi_true m0 (show mid≤V.hi - 1 by omega))
 refine ⟨A,B,Y,⟨ka,kb,ky⟩,⟨?_,?_,?_⟩,⟨by rw [a2,b1],a3,hlen⟩,⟨fun M hM=>?_,fun M hM=>?_⟩,dpB_no hgab.2,?_,ey,y1.trans a1,y2.trans b2,idsF_same (hY.map _),asc_eq ky.tb.asc k.tb.asc (y6.trans hpl)⟩
 ·exact hd
 ·unfold dvA
  rw [if_pos hd]
  exact ea
 ·unfold dvB
  rw [if_pos hd]
  exact eb
 ·constructor
  ·rintro ⟨N,hN,e⟩
   have h:=(hmA N).1 hN
   rw [←gd_one k.gd hM h.1 e];exact h.2
  ·intro h;exact ⟨M,(hmA M).2 ⟨hM,h⟩,rfl⟩
 ·constructor
  ·rintro ⟨N,hN,e⟩
   have h:=(hmB N).1 hN
   rw [←gd_one k.gd hM h.1 e];exact h.2
  ·intro h;exact ⟨M,(hmB M).2 ⟨hM,h⟩,rfl⟩
 ·have h1:=hp.length_eq
  rw [h1]
  have:=k.room
  have:=k.n2
  simp only [Vs.al,List.length_append,List.length_map]
  omega
end Go.Proofs.YtncgbldcjfbknaaGreat
namespace Go.Proofs.YtncgbldcjfbknaaGreat
open Go.RowKit
theorem bel_drewN {B:Nat} {a w:World} (h:Below B a w) (n:Nat):Below B a (w.drewN n):=⟨h.os,h.tape,h.output,h.size,h.block⟩
end Go.Proofs.YtncgbldcjfbknaaGreat
namespace Go.Proofs.YtncgbldcjfbknaaGreat
open Go.RowKit
set_option linter.unusedVariables false
set_option maxHeartbeats 2000000 in
theorem rsamei_yes (A A' : Option Addr) (n n' c c' : Nat) (l:List Int) (w:World) (B B' : Nat) (hv:Nr w B (.slice A n c) l) (hv' : Nr w B' (.slice A' n' c') l) :
  Calls Tryz.prog 30 #[.slice A n c,.slice A' n' c'] w fun e w'=>e=.returned (.bool true)∧Below w.heap.size w w':=by
 obtain ⟨rfl,hm1,hm2⟩:=hv.len
 obtain ⟨rfl,hm1',hm2'⟩:=hv'.len
 have hL:l.length≤9223372036854775807:=by unfold maxLen at hm2;omega
 have HV:=Lh hv
 have HV':=Lh hv'
 have HB:=Lh (Below.refl w.heap.size w)
 clear hv hm1 hm2 hv' hm1' hm2'
 go_enter Tryz.func30,Tryz.ntmps30
 go_wp2
 go_loopw [5] (fun i wr=>∃ k:Nat,k≤l.length∧i=.int .i64 k∧Nr wr B (.slice A l.length c) l∧Nr wr B' (.slice A' l.length c') l∧Below w.heap.size w wr) (fun i _=>l.length - (intOf i).toNat)
 case atStart=>exact ⟨0,by omega,rfl,HV.out,HV'.out,HB.out⟩
 case round=>
  obtain ⟨k,hk,rfl,hv,hv',hb⟩:=hrel
  have HV:=Lh hv
  have HV':=Lh hv'
  have HB:=Lh hb
  clear hv hv' hb
  by_cases hlt:k<l.length
  ·obtain ⟨b,o,rfl,hb,c0⟩:=HV.out.at_ hlt
   obtain ⟨b',o',rfl,hb',d0⟩:=HV'.out.at_ hlt
   generalize l[k]=M at*
   have hne:(M != M)=false:=by simp
   go_wp2
   go_quiet (fail)
   go_wp2
   go_roundw
   case rel=>exact ⟨k+1,by omega,by go_num,HV.out.drewN _,HV'.out.drewN _,bel_drewN HB.out _⟩
   case measure=>simp [intOf];omega
  ·go_wp2
   go_ret
   exact ⟨rfl,HB.out⟩
theorem eqm_fuel (M:Msg) (f:Nat) (W:World):(Op.equalIn (f+2) 56 M.v M.v).run Tryz.prog W=.ok true W:=by
 have u3:=Tryz.underlying3
 have u9:=Tryz.underlying9
 have hS:Tryz.prog.underlying 56=some (.struct (Tryz.prog.fieldsOf 56)):=by kernel_rfl
 have hp:Tryz.prog.stoodInHeld 56=false:=by kernel_rfl
 rw [show f+2=(f+1)+1 from rfl,run_equalIn_agg W (f+1) 56 _ _ hS hp]
 simp only [Program.fieldsOf,Tryz.underlying56]
 go_simp
theorem eql_in (x:Le) (W:World):(Op.equalIn 10000 58 x.v x.v).run Tryz.prog W=.ok true W:=by
 have u3:=Tryz.underlying3
 have hS:Tryz.prog.underlying 58=some (.struct (Tryz.prog.fieldsOf 58)):=by kernel_rfl
 have hp:Tryz.prog.stoodInHeld 58=false:=by kernel_rfl
 have hM:=fun W=>eqm_fuel x.m 9997 W
 rw [show (10000:Nat)=9999+1 from rfl,run_equalIn_agg W 9999 58 _ _ hS hp]
 simp only [Program.fieldsOf,Tryz.underlying58]
 go_simp
theorem eql (x:Le):∀ W,(binOp .eql 58 x.v x.v).run Tryz.prog W=.ok (.bool true) W:=fun W=>by
 rw [run_eql_struct,eql_in];rfl
theorem neql (x:Le):∀ W,(binOp .neq 58 x.v x.v).run Tryz.prog W=.ok (.bool false) W:=fun W=>by
 rw [run_neq_struct,eql_in];rfl
end Go.Proofs.YtncgbldcjfbknaaGreat
