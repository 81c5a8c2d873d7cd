/- What is proved here: shardqueuelaw07.ShardHalves returns true for every input and leaves its argument as it was. No condition. -/
import Derived.Test.YtncgbldcjfbknaaGreatJ26
import Derived.Test.YtncgbldcjfbknaaGreatJ33
import Derived.Test.YtncgbldcjfbknaaGreatJ32
import Derived.Test.YtncgbldcjfbknaaGreatJ34
import Derived.Test.YtncgbldcjfbknaaGreatJ37
import Derived.Test.YtncgbldcjfbknaaGreatJ08
import Derived.ProofKit
import Derived.OpenShut
import Derived.ShutString
import Derived.ChangeOld
import Derived.Deep.RegionHeld3
import Derived.Deep.QuietTactic
import Derived.BigQuiet
namespace Go.Proofs.YtncgbldcjfbknaaGreat
open Go.RowKit
set_option linter.unusedVariables false
theorem SAt.grownH {w W W' : World} {p g:Nat} {S:Sh} {D:Sx} (h:SAt w p S D W) (hg:W.grownBy W' (some g)) (ho:SOff S D g) (hne:p≠g) (hB:w.heap.size≤g):SAt w p S D W':=
 ⟨h.s8.grownG hg hne,⟨(h.sr.ls.grownR (Nat.le_refl _) hg (fun q e=>by injection e with e;subst e;exact ho.o1)).more hg.size,(h.sr.el.grownR (Nat.le_refl _) hg (fun q e=>by injection e with e;subst e;exact ho.o2)).more hg.size,(h.sr.dl.grownR (Nat.le_refl _) hg (fun q e=>by injection e with e;subst e;exact ho.o3)).more hg.size⟩,h.off,
  h.bel.grown hg h.bel.size (fun x e=>by injection e with e;omega),h.old⟩
/-- The source and the shard. -/
structure SnAt (w:World) (g p:Nat) (S:Sh) (D:Sx) (W:World):Prop where
 src:SrcAt W w.heap.size g
 sa:SAt w p S D W
 off:SOff S D g
 gp:g<p
theorem SnAt.turn {w W W' : World} {g p:Nat} {S:Sh} {D:Sx} (h:SnAt w g p S D W) (hs:SrcAt W' w.heap.size g) (hg:W.grownBy W' (some g)):SnAt w g p S D W':=⟨hs,h.sa.grownH hg h.off (by have:=h.gp;omega) h.src.1,h.off,h.gp⟩
theorem SnAt.below {w W W' : World} {g p:Nat} {S:Sh} {D:Sx} (h:SnAt w g p S D W) (hb:Below W.heap.size W W'):SnAt w g p S D W':=⟨h.src.below hb,h.sa.below hb,h.off,h.gp⟩
/-- Three boxes of shards, read only. -/
structure H3At (w:World) (p a b:Nat) (S A B:Sh) (D Da Db:Sx) (W:World):Prop where
 sa:SAt w p S D W
 aa:SAt w a A Da W
 bb:SAt w b B Db W
section
variable {w W W' : World} {p a b:Nat} {S A B:Sh} {D Da Db:Sx}
theorem H3At.below (h:H3At w p a b S A B D Da Db W) (hb:Below W.heap.size W W'):H3At w p a b S A B D Da Db W':=⟨h.sa.below hb,h.aa.below hb,h.bb.below hb⟩
theorem H3At.k (h:H3At w p a b S A B D Da Db W):D24 p a b S A B D Da Db W:=⟨h.sa.k8,h.aa.k8,h.bb.k8⟩
theorem SAt.back {w w1:World} {p:Nat} {S:Sh} {D:Sx} {W:World} (h:SAt w1 p S D W) (hw:Below w.heap.size w w1):SAt w p S D W:=⟨h.s8,h.sr,h.off,hw.trans (h.bel.mono hw.size),Nat.le_trans hw.size h.old⟩
end
/-- .. and one message of a list. -/
structure LpAt (w:World) (p a b:Nat) (S A B:Sh) (D Da Db:Sx) (x o:Nat) (i r:Int) (W:World):Prop where
 h:H3At w p a b S A B D Da Db W
 c0:W.cell? ⟨x,o,none⟩=some (.int .i64 i)
 c1:W.cell? ⟨x,o+1,none⟩=some (.int .i64 r)
 lt:x<W.heap.size
theorem LpAt.below {w W W' : World} {p a b:Nat} {S A B:Sh} {D Da Db:Sx} {x o:Nat} {i r:Int} (h:LpAt w p a b S A B D Da Db x o i r W) (hb:Below W.heap.size W W'):LpAt w p a b S A B D Da Db x o i r W':=
 ⟨h.h.below hb,(hb.cell (p:=⟨x,o,none⟩) h.lt).trans h.c0,(hb.cell (p:=⟨x,o+1,none⟩) h.lt).trans h.c1,Nat.lt_of_lt_of_le h.lt hb.size⟩
theorem al_le {V:Vs} (k:V.Ok):V.sh.al.length≤12∧V.sh.l.length≤12∧V.sh.h.length≤12∧V.sh.cs.length≤12∧1≤V.sh.cs.length∧V.L.length≤12:=by
 have h1:=k.room
 have h2:=k.n2
 have h3:=k.tb.hlen
 have h4:=k.n1
 refine ⟨?_,?_,?_,?_,?_,by omega⟩
 ·rw [k.al_sh];simp only [Vs.al,List.length_append,List.length_map];omega
 ·show V.l.length≤12;omega
 ·show V.h.length≤12;have:=k.tb.len;omega
 ·show (fil V.n V.hd V.L).length≤12;rw [fil_len];omega
 ·show 1≤(fil V.n V.hd V.L).length;rw [fil_len];omega
theorem dv_cases {S:Sh} (h:SrSh S) (mid:Int):(∃ V:Vs,V.Ok∧S=V.sh∧V.lo≤mid∧mid<V.hi)∨(dvE S mid≠0∧(S.lv=false∨S.lv=true∧mid<S.lo∨S.lv=true∧¬mid<S.lo∧S.hi≤mid)):=by
 rcases h with ⟨V,k,rfl⟩ | ⟨k,k1,k2,rfl⟩
 ·by_cases h1:V.lo≤mid∧mid<V.hi
  ·exact .inl ⟨V,k,rfl,h1.1,h1.2⟩
  ·refine .inr ⟨?_,?_⟩
   ·unfold dvE
    rw [k.ex]
    have:¬wi mid V.sh.lo (V.sh.hi - 1)=true:=fun e=>by
     have h2:=wi_of e
     have h3:V.lo≤mid∧mid≤V.hi - 1:=h2
     omega
    rw [if_neg this]
    decide
   ·by_cases h2:mid<V.lo
    ·exact .inr (.inl ⟨rfl,h2⟩)
    ·exact .inr (.inr ⟨rfl,h2,by show V.hi≤mid;omega⟩)
 ·refine .inr ⟨?_,.inl rfl⟩
  unfold dvE
  rw [fr_ex k1 k2]
  decide
theorem sr_hi {S:Sh} (h:SrSh S):0≤S.hi∧S.hi≤65535∧S.l.length≤1000:=by
 rcases h with ⟨V,k,rfl⟩ | ⟨k,k1,k2,rfl⟩
 ·have:=k.sp
  have:=(al_le k).2.1
  refine ⟨?_,?_,by omega⟩
  ·show 0≤V.hi;omega
  ·show V.hi≤65535;omega
 ·refine ⟨?_,?_,?_⟩
  ·show (0:Int)≤0;omega
  ·show (0:Int)≤65535;omega
  ·show (0:Nat)≤1000;omega
/-- All that the walk asks of the halves. -/
structure HvSh (S SA SB SY:Sh) (mid:Int):Prop where
 dv:dvE S mid=0∧dvA S mid=SA∧dvB S mid=SB
 ia:∀ M∈S.al,decide (0≤ixF SA.al M.id)=decide (M.rt≤mid)
 ib:∀ M∈S.al,decide (0≤ixF SB.al M.id) = !decide (M.rt≤mid)
 un:∀ D1 D2 W,SR W W.heap.size SA D1→SR W W.heap.size SB D2→Calls Tryz.prog 29 #[sv SA D1,sv SB D2] W (SE W SY 0)
 y:SY.lo=S.lo∧SY.hi=S.hi∧idsF SY.al=idsF S.al∧SY.l=S.l
 st:stF SA+stF SB=stF S∧0≤stF SA∧stF SA≤100∧0≤stF SB∧stF SB≤100
 ln:S.l.length≤1000∧SA.l.length≤1000∧SB.l.length≤1000∧SY.l.length≤1000∧S.al.length≤1000
theorem hv_sh {V:Vs} {mid:Int} (k:V.Ok) (m0:V.lo≤mid) (m1:mid<V.hi):∃ SA SB SY:Sh,HvSh V.sh SA SB SY mid:=by
 obtain ⟨A,B,Y,⟨kA,kB,kY⟩,⟨d1,d2,d3⟩,⟨u1,u2,u3⟩,⟨i1,i2⟩,hdp,hlen,hY,y1,y2,y3,y4⟩:=hv_ok k m0 m1
 obtain ⟨a1,a2,a3,a4,a5,a6⟩:=al_le kA
 obtain ⟨b1,b2,b3,b4,b5,b6⟩:=al_le kB
 obtain ⟨v1,v2,v3,v4,v5,v6⟩:=al_le k
 obtain ⟨w1,w2,-,-,-,-⟩:=al_le kY
 have sA:=kA.sp
 have sB:=kB.sp
 have rm:=k.room
 refine ⟨A.sh,B.sh,Y.sh,⟨d1,d2,d3⟩,fun M hM=>?_,fun M hM=>?_,fun D1 D2 W h1 h2=>?_,⟨y1,y2,?_,y4⟩,?_,by omega,by omega,by omega,by omega,by omega⟩
 ·rw [k.al_sh] at hM
  rw [kA.al_sh]
  exact decide_eq_decide.2 ((ixF_ge _ _).trans (i1 M hM))
 ·rw [k.al_sh] at hM
  rw [kB.al_sh,←decide_not]
  exact decide_eq_decide.2 ((ixF_ge _ _).trans (i2 M hM))
 ·rw [←hY]
  refine sunite_ok A.sh B.sh D1 D2 W h1 h2 kA.va kB.va rfl rfl u1 ?_ ?_ ?_ ?_ a5 (by omega) (by omega) ?_ ?_ (by omega) ?_ ?_ (by omega) ?_ ?_ ?_
  ·show 0≤A.hi;omega
  ·show A.hi≤65535;omega
  ·show A.lo≤A.hi;omega
  ·show B.lo≤B.hi;omega
  ·show (0:Int)≤(A.L.length:Int);omega
  ·show (A.L.length:Int)≤100;omega
  ·show (0:Int)≤(B.L.length:Int);omega
  ·show (B.L.length:Int)≤100;omega
  ·show (A.L.length:Int)+A.l.length+((B.L.length:Int)+B.l.length)≤((fil A.n A.hd A.L).length:Int)
   rw [fil_len];omega
  ·rw [kA.al_sh,kB.al_sh];exact hdp
  ·rw [kA.al_sh,kB.al_sh];exact hlen
 ·rw [kY.al_sh,k.al_sh];exact y3
 ·have c1:A.l.length≤12:=a2
  have c2:B.l.length≤12:=b2
  rw [stF_vs kA,stF_vs kB,stF_vs k]
  refine ⟨by omega,by omega,by omega,by omega,by omega⟩
set_option maxHeartbeats 16000000 in
set_option maxRecDepth 20000 in
theorem ShardHalves_walk (w:World) (a0:Option Addr) (l0 c0:Nat) (zs:List Int) (hz:Ns w w.heap.size (.slice a0 l0 c0) zs) :
  Calls Tryz.prog 5 #[.slice a0 l0 c0] w fun e w'=>e=.returned (.bool true)∧Below w.heap.size w w':=by
 have HN:=Lh (new_src a0 l0 c0 zs w hz)
 have HAW:=Lh (fun W=>awake7_any W)
 clear hz
 go_enter Tryz.func5,Tryz.ntmps5
 go_wp2_with fail
 refine HN.out.mono ?_
 rintro e w1 ⟨g,rfl,hs,hb⟩
 have HW1:=Lh hb
 have HS1:=Lh hs
 have HBG:=Lh (show w.heap.size≤g from hs.1)
 have HG1:=Lh hs.2.1
 clear hb hs HN
 go_wp2_with fail
 refine (shard_any w.heap.size g _ HS1.out).mono ?_
 rintro e w2 ⟨S,D,rfl,hS,hn,hr,hs,hg⟩
 have HSR:=Lh hS
 have H3:=Lh (show SnAt w g w2.heap.size S D (w2.alloc (.cells #[.bool S.lv,.int .i64 S.lo,.int .i64 S.hi,.slice D.A S.cs.length D.c,.int .i64 S.hd,.int .i64 S.sz,.slice D.A2 S.l.length D.c2,.slice D.A3 S.h.length D.c3] 33)) from
  ⟨hs.alloc _,SAt.made 33 (below_only HW1.out hg HBG.out (Nat.le_refl _)) hr,hn.off HG1.out,hs.2.1⟩)
 clear hS hn hr hs hg HS1 HW1
 have HSZ:=Lh (show (w2.alloc (.cells #[.bool S.lv,.int .i64 S.lo,.int .i64 S.hi,.slice D.A S.cs.length D.c,.int .i64 S.hd,.int .i64 S.sz,.slice D.A2 S.l.length D.c2,.slice D.A3 S.h.length D.c3] 33)).heap.size=w2.heap.size+1 by simp)
 go_wp2_with fail
 obtain ⟨p,hp⟩:∃ p,p=w2.heap.size:=⟨_,rfl⟩
 rw [←hp] at H3 HSZ ⊢
 clear hp
 generalize w2.alloc (.cells #[.bool S.lv,.int .i64 S.lo,.int .i64 S.hi,.slice D.A S.cs.length D.c,.int .i64 S.hd,.int .i64 S.sz,.slice D.A2 S.l.length D.c2,.slice D.A3 S.h.length D.c3] 33)=w3 at*
 refine (pick_any w.heap.size g (w3.alloc (.cells #[.int .i64 0,.int .i64 100,.int .i64 20000,.int .i64 32768,.int .i64 40000] 3)) (H3.out.src.alloc _) (p+1) 5 [0,100,20000,32768,40000] rfl (by have:=HSZ.out;simp;omega) (by have:=H3.out.gp;omega) (by omega) (by omega) (by rw [←HSZ.out];exact row5 w3 0 100 20000 32768 40000 3)).mono ?_
 rintro e w4 ⟨mid,rfl,hmem,hs,hg⟩
 have HM:=Lh (show 0≤mid∧mid≤65535 by simp at hmem;omega)
 have H4:=Lh (show SAt w p S D w4 from ((H3.out.below ((Below.refl _ _).alloc (Nat.le_refl _) _)).turn hs hg).sa)
 clear hmem hs hg H3
 have HDV:=Lh (fun W (q:SAt w p S D W)=>sdivide_any S D mid W q.sr (sr_hi HSR.out).1 (sr_hi HSR.out).2.1 HM.out.1 HM.out.2 (sr_hi HSR.out).2.2)
 rcases dv_cases HSR.out mid with ⟨V,kV,hSV,m0,m1⟩ | ⟨hx,hc⟩
 ·subst hSV
  obtain ⟨SA,SB,SY,hv⟩:=hv_sh kV m0 m1
  have HV:=Lh hv
  rw [hv.dv.1,hv.dv.2.1,hv.dv.2.2] at HDV
  generalize V.sh=S at*
  clear hv kV m0 m1 HSR
  obtain ⟨t0,t1,t2,t3,t4,t5,t6,t7,tl⟩:=H4.out.s8.facts
  go_wp2_with fail
  clear t0 t1 t2 t3 t4 t5 t6 t7 tl
  refine (HDV.out _ H4.out).mono ?_
  rintro e w5 ⟨D1,D2,rfl,-,-,hr1,hr2,hb⟩
  have HB1:=Lh ((Below.refl w5.heap.size w5).alloc (Nat.le_refl _) (.cells #[.bool SA.lv,.int .i64 SA.lo,.int .i64 SA.hi,.slice D1.A SA.cs.length D1.c,.int .i64 SA.hd,.int .i64 SA.sz,.slice D1.A2 SA.l.length D1.c2,.slice D1.A3 SA.h.length D1.c3] 33))
  have HA5:=Lh (SAt.made 33 (H4.out.below hb).bel hr1)
  have HR2:=Lh (hr2.up HB1.out)
  have H45:=Lh (H4.out.below hb)
  clear hr1 hr2 hb H4 HDV
  have HE1:=Lh (show (w5.alloc (.cells #[.bool SA.lv,.int .i64 SA.lo,.int .i64 SA.hi,.slice D1.A SA.cs.length D1.c,.int .i64 SA.hd,.int .i64 SA.sz,.slice D1.A2 SA.l.length D1.c2,.slice D1.A3 SA.h.length D1.c3] 33)).heap.size=w5.heap.size+1 by simp)
  have H6:=Lh (show H3At w p w5.heap.size (w5.heap.size+1) S SA SB D D1 D2 ((w5.alloc (.cells #[.bool SA.lv,.int .i64 SA.lo,.int .i64 SA.hi,.slice D1.A SA.cs.length D1.c,.int .i64 SA.hd,.int .i64 SA.sz,.slice D1.A2 SA.l.length D1.c2,.slice D1.A3 SA.h.length D1.c3] 33)).alloc (.cells #[.bool SB.lv,.int .i64 SB.lo,.int .i64 SB.hi,.slice D2.A SB.cs.length D2.c,.int .i64 SB.hd,.int .i64 SB.sz,.slice D2.A2 SB.l.length D2.c2,.slice D2.A3 SB.h.length D2.c3] 33)) from by
   have b2:=SAt.made 33 (HA5.out.bel) HR2.out
   rw [HE1.out] at b2
   exact ⟨(H45.out.alloc _).alloc _,HA5.out.alloc _,b2⟩)
  obtain ⟨t0,t1,t2,t3,t4,t5,t6,t7,tl⟩:=H45.out.s8.facts
  go_wp2_with fail
  clear t0 t1 t2 t3 t4 t5 t6 t7 tl HA5 HR2 HB1 H45 HE1
  obtain ⟨b,hb⟩:∃ b,b=w5.heap.size+1:=⟨_,rfl⟩
  obtain ⟨a,ha⟩:∃ a,a=w5.heap.size:=⟨_,rfl⟩
  rw [←hb,←ha] at H6 ⊢
  clear ha hb
  generalize ((w5.alloc (.cells #[.bool SA.lv,.int .i64 SA.lo,.int .i64 SA.hi,.slice D1.A SA.cs.length D1.c,.int .i64 SA.hd,.int .i64 SA.sz,.slice D1.A2 SA.l.length D1.c2,.slice D1.A3 SA.h.length D1.c3] 33)).alloc (.cells #[.bool SB.lv,.int .i64 SB.lo,.int .i64 SB.hi,.slice D2.A SB.cs.length D2.c,.int .i64 SB.hd,.int .i64 SB.sz,.slice D2.A2 SB.l.length D2.c2,.slice D2.A3 SB.h.length D2.c3] 33))=w6 at*
  have HLN:=Lh HV.out.ln
  refine (rall_any S D w6 H6.out.sa.sr (Nat.le_trans (lsF_le _ _ _) (by decide)) HLN.out.1).mono ?_
  rintro e w7 ⟨A9,c9,rfl,hl,hb⟩
  have H7:=Lh (H6.out.below hb)
  have HL7:=Lh hl
  clear hl hb H6
  go_wp2
  obtain ⟨L,hL⟩:∃ L,L=S.al:=⟨_,rfl⟩
  have HLL:=Lh (show L.length≤1000 by rw [hL];exact HLN.out.2.2.2.2)
  have HIA:=Lh (show ∀ M∈L,decide (0≤ixF SA.al M.id)=decide (M.rt≤mid) by rw [hL];exact HV.out.ia)
  have HIB:=Lh (show ∀ M∈L,decide (0≤ixF SB.al M.id) = !decide (M.rt≤mid) by rw [hL];exact HV.out.ib)
  rw [←hL] at HL7 ⊢
  clear hL
  have HAA:=Lh (fun W (q:H3At w p a b S SA SB D D1 D2 W)=>rall_any SA D1 W q.aa.sr (Nat.le_trans (lsF_le _ _ _) (by decide)) HLN.out.2.1)
  have HAB:=Lh (fun W (q:H3At w p a b S SA SB D D1 D2 W)=>rall_any SB D2 W q.bb.sr (Nat.le_trans (lsF_le _ _ _) (by decide)) HLN.out.2.2.1)
  go_loopw [10,11,12] (fun iv _ _ wr=>∃ k:Nat,k≤L.length∧iv=.int .i64 k∧Hid (H3At w p a b S SA SB D D1 D2 wr)∧Hid (Ls wr wr.heap.size (.slice A9 L.length c9) L)) (fun iv _ _ _=>L.length - (intOf iv).toNat)
  case atStart=>exact ⟨0,Nat.zero_le _,rfl,H7,HL7⟩
  case round=>
   clear H7 HL7
   obtain ⟨k,hk,rfl,H7,HL7⟩:=hrel
   have hl64:(L.length:Int)≤1000:=by have:=HLL.out;omega
   by_cases hlt:k<L.length
   ·obtain ⟨bb,o,rfl,hbl,c0',c1',c2',c3',c4',c5',c6'⟩:=HL7.out.at_ hlt
    have HI1:=Lh (HIA.out L[k] (List.getElem_mem hlt))
    have HI2:=Lh (HIB.out L[k] (List.getElem_mem hlt))
    generalize L[k]=X at*
    have hkl:(k:Int)<(L.length:Int):=by omega
    have HP:=Lh (show LpAt w p a b S SA SB D D1 D2 bb (o+k*7) X.id X.rt wr from ⟨H7.out,c0',c1',hbl⟩)
    have HLS:=Lh (fun W (hb:Below wr.heap.size wr W)=>HL7.out.up hb)
    have HW0:=Lh (Below.refl wr.heap.size wr)
    clear c0' c1' c2' c3' c4' c5' c6' H7 HL7 hbl
    go_wp2_with fail
    have HK0:=Lh (show K8 a SA D1 wr∧wr.cell? ⟨bb,o+k*7,none⟩=some (.int .i64 X.id) from ⟨HP.out.h.aa.k8,HP.out.c0⟩)
    have HP1:=Lh (HP.out.below (Below.refl _ _).drew)
    have HK1:=Lh (show K8 a SA D1 wr.drew∧wr.drew.cell? ⟨bb,o+k*7,none⟩=some (.int .i64 X.id) from ⟨HP1.out.h.aa.k8,HP1.out.c0⟩)
    go_region_held3 (fun W=>K8 a SA D1 W∧W.cell? ⟨bb,o+k*7,none⟩=some (.int .i64 X.id))
     (first | with_reducible exact HK1.out | with_reducible exact HK2.out | with_reducible exact HK0.out)
     (first
     | (go_at_call 27;(with_reducible refine (HAA.out _ HP1.out.h).mono ?_);rintro e w8 ⟨A8,c8,rfl,hl,hb⟩;have HP2:=Lh (HP1.out.below hb);have HK2:=Lh (show K8 a SA D1 w8∧w8.cell? ⟨bb,o+k*7,none⟩=some (.int .i64 X.id) from ⟨HP2.out.h.aa.k8,HP2.out.c0⟩);have HW2:=Lh (HW0.out.drew.trans (hb.mono HW0.out.drew.size));have HL8:=Lh hl;clear hl hb)
     | (go_at_call 28;(with_reducible refine (rindex_any _ _ _ _ X.id _ _ HL8.out).mono ?_);rintro e w9 ⟨rfl,rfl⟩))
    clear HK0 HP1 HK1 HK2 HP HL8 HW0
    rw [HI1.out]
    go_wp2_with fail
    have HK0:=Lh (show K8 b SB D2 w8∧w8.cell? ⟨bb,o+k*7,none⟩=some (.int .i64 X.id) from ⟨HP2.out.h.bb.k8,HP2.out.c0⟩)
    have HP1:=Lh (HP2.out.below (Below.refl _ _).drew)
    have HK1:=Lh (show K8 b SB D2 w8.drew∧w8.drew.cell? ⟨bb,o+k*7,none⟩=some (.int .i64 X.id) from ⟨HP1.out.h.bb.k8,HP1.out.c0⟩)
    go_region_held3 (fun W=>K8 b SB D2 W∧W.cell? ⟨bb,o+k*7,none⟩=some (.int .i64 X.id))
     (first | with_reducible exact HK1.out | with_reducible exact HK2.out | with_reducible exact HK0.out)
     (first
     | (go_at_call 27;(with_reducible refine (HAB.out _ HP1.out.h).mono ?_);rintro e w9 ⟨A8,c8,rfl,hl,hb⟩;have HP3:=Lh (HP1.out.below hb);have HK2:=Lh (show K8 b SB D2 w9∧w9.cell? ⟨bb,o+k*7,none⟩=some (.int .i64 X.id) from ⟨HP3.out.h.bb.k8,HP3.out.c0⟩);have HW3:=Lh (HW2.out.drew.trans (hb.mono HW2.out.drew.size));have HL8:=Lh hl;clear hl hb)
     | (go_at_call 28;(with_reducible refine (rindex_any _ _ _ _ X.id _ _ HL8.out).mono ?_);rintro e w10 ⟨rfl,rfl⟩))
    clear HK0 HP1 HK1 HK2 HP2 HL8 HW2
    rw [HI2.out]
    have x1:=HP3.out.c1
    by_cases hm:X.rt≤mid
    ·have hd:decide (X.rt≤mid)=true:=decide_eq_true hm
     rw [hd]
     go_wp2
     go_roundw
     case rel=>exact ⟨k+1,by omega,by go_num,Lh HP3.out.h,Lh (HLS.out _ HW3.out)⟩
     case measure=>simp [intOf];omega
    ·have hd:decide (X.rt≤mid)=false:=decide_eq_false hm
     rw [hd]
     go_wp2
     go_roundw
     case rel=>exact ⟨k+1,by omega,by go_num,Lh HP3.out.h,Lh (HLS.out _ HW3.out)⟩
     case measure=>simp [intOf];omega
   ·have HUN:=Lh (HV.out.un D1 D2 wr H7.out.aa.sr H7.out.bb.sr)
    have hge:¬((k:Int)<(L.length:Int)):=by omega
    clear HIA HIB HAA HAB HL7 hlt hk hl64 HLL
    obtain ⟨t0,t1,t2,t3,t4,t5,t6,t7,tl⟩:=H7.out.aa.s8.facts
    obtain ⟨y0,y1,y2,y3,y4,y5,y6,y7,yl⟩:=H7.out.bb.s8.facts
    go_wp2_with fail
    clear t0 t1 t2 t3 t4 t5 t6 t7 tl y0 y1 y2 y3 y4 y5 y6 y7 yl
    refine HUN.out.mono ?_
    rintro e w8 ⟨D8,rfl,-,hr8,hb⟩
    have H8:=Lh (H7.out.below hb)
    have HY8:=Lh (SAt.made 33 H8.out.sa.bel hr8)
    have H9:=Lh (H8.out.below ((Below.refl _ _).alloc (Nat.le_refl _) (.cells #[.bool SY.lv,.int .i64 SY.lo,.int .i64 SY.hi,.slice D8.A SY.cs.length D8.c,.int .i64 SY.hd,.int .i64 SY.sz,.slice D8.A2 SY.l.length D8.c2,.slice D8.A3 SY.h.length D8.c3] 33)))
    clear hr8 hb H7 HUN
    go_wp2_with fail
    obtain ⟨y,hy⟩:∃ y,y=w8.heap.size:=⟨_,rfl⟩
    rw [←hy] at HY8 ⊢
    clear hy H8
    generalize w8.alloc (.cells #[.bool SY.lv,.int .i64 SY.lo,.int .i64 SY.hi,.slice D8.A SY.cs.length D8.c,.int .i64 SY.hd,.int .i64 SY.sz,.slice D8.A2 SY.l.length D8.c2,.slice D8.A3 SY.h.length D8.c3] 33)=w9 at*
    have hlo:(SY.lo != S.lo)=false:=by rw [HV.out.y.1];simp
    have hhi:(SY.hi != S.hi)=false:=by rw [HV.out.y.2.1];simp
    have hll:((SY.l.length:Int) != (S.l.length:Int))=false:=by rw [HV.out.y.2.2.2];simp
    have HIY:=Lh (fun W (q:SAt w y SY D8 W)=>show Calls Tryz.prog 13 #[sv SY D8] W (NrR (idsF S.al) W) by
     have:=ids_any SY D8 W q.sr (Nat.le_trans (lsF_le _ _ _) (by decide)) HLN.out.2.2.2.1
     rwa [HV.out.y.2.2.1] at this)
    have HIX:=Lh (fun W (q:SAt w p S D W)=>ids_any S D W q.sr (Nat.le_trans (lsF_le _ _ _) (by decide)) HLN.out.1)
    generalize idsF S.al=O at*
    have HK0:=Lh (show K8 y SY D8 w9∧K8 p S D w9 from ⟨HY8.out.k8,H9.out.sa.k8⟩)
    have HY1:=Lh (HY8.out.below (Below.refl _ _).drew)
    have H1:=Lh (H9.out.below (Below.refl _ _).drew)
    have HK1:=Lh (show K8 y SY D8 w9.drew∧K8 p S D w9.drew from ⟨HY1.out.k8,H1.out.sa.k8⟩)
    clear HY8 H9
    go_region_held3 (fun W=>K8 y SY D8 W∧K8 p S D W)
     (first | with_reducible exact HK1.out | with_reducible exact HK2.out | with_reducible exact HK3.out | with_reducible exact HK4.out | with_reducible exact HK0.out)
     (first
     | (go_at_call 13;(first
      | ((with_reducible refine (HIY.out _ HY1.out).mono ?_);rintro e w10 ⟨Aa,ca,rfl,hl,hb,-⟩;have HY2:=Lh (HY1.out.below hb);have H2:=Lh (H1.out.below hb);have HK2:=Lh (show K8 y SY D8 w10∧K8 p S D w10 from ⟨HY2.out.k8,H2.out.sa.k8⟩);have HLA:=Lh hl;clear hl hb)
      | ((with_reducible refine (HIX.out _ H2.out.sa).mono ?_);rintro e w11 ⟨Ab,cb,rfl,hl,hb,-⟩;have HY3:=Lh (HY2.out.below hb);have H3:=Lh (H2.out.below hb);have HK3:=Lh (show K8 y SY D8 w11∧K8 p S D w11 from ⟨HY3.out.k8,H3.out.sa.k8⟩);have HLB:=Lh hl;have HLA2:=Lh (HLA.out.up hb);clear hl hb)))
     | (go_at_call 30;(with_reducible refine (rsamei_yes _ _ _ _ _ _ _ _ _ _ HLA2.out HLB.out).mono ?_);rintro e w12 ⟨rfl,hb⟩;have HY4:=Lh (HY3.out.below hb);have H4:=Lh (H3.out.below hb);have HK4:=Lh (show K8 y SY D8 w12∧K8 p S D w12 from ⟨HY4.out.k8,H4.out.sa.k8⟩);clear hb))
    have HEQ:SY.l=S.l:=HV.out.y.2.2.2
    clear HIY HIX HY1 H1 HK0 HK1 HY2 H2 HK2 HLA HLA2 HLB HY3 H3 HK3 HK4 hlo hhi hll
    obtain ⟨t0,t1,t2,t3,t4,t5,t6,t7,tl⟩:=H4.out.sa.s8.facts
    obtain ⟨y0,y1,y2,y3,y4,y5,y6,y7,yl⟩:=HY4.out.s8.facts
    go_wp2
    clear t0 t1 t2 t3 t4 t5 t6 t7 tl y0 y1 y2 y3 y4 y5 y6 y7 yl
    go_loopw [15] (fun i wr=>∃ k:Nat,k≤S.l.length∧i=.int .i64 k∧Hid (H3At w p a b S SA SB D D1 D2 wr)∧Hid (SAt w y SY D8 wr)) (fun i _=>S.l.length - (intOf i).toNat)
    case atStart=>exact ⟨0,by omega,rfl,H4,HY4⟩
    case round=>
     obtain ⟨k,hk,rfl,H5,HY5⟩:=hrel
     clear H4 HY4
     have hL:=HLN.out.1
     obtain ⟨t0,t1,t2,t3,t4,t5,t6,t7,tl⟩:=H5.out.sa.s8.facts
     obtain ⟨y0,y1,y2,y3,y4,y5,y6,y7,yl⟩:=HY5.out.s8.facts
     by_cases hlt:k<S.l.length
     ·have hly:k<SY.l.length:=by rw [HEQ];exact hlt
      obtain ⟨bx,ox,hA,hbx,c0,c1,c2,c3,c4,c5,c6,c7⟩:=H5.out.sa.sr.el.at_ hlt
      obtain ⟨by_,oy,hA',hby,d0,d1,d2,d3,d4,d5,d6,d7⟩:=HY5.out.sr.el.at_ hly
      obtain ⟨M,hM,hN⟩:∃ M,S.l[k]'hlt=M∧SY.l[k]'hly=M:=⟨_,rfl,by simp [HEQ]⟩
      rw [hM] at c0 c1 c2 c3 c4 c5 c6 c7
      rw [hN] at d0 d1 d2 d3 d4 d5 d6 d7
      rw [hA] at t6
      rw [hA',HEQ] at y6
      clear hM hN hly
      have hne:=neql M
      go_wp2
      go_quiet (fail)
      go_wp2
      go_roundw
      case rel=>exact ⟨k+1,by omega,by go_num,Lh (H5.out.below (belN _ _)),Lh (HY5.out.below (belN _ _))⟩
      case measure=>simp [intOf];omega
     ·go_wp2
      clear t0 t1 t2 t3 t4 t5 t6 t7 tl y0 y1 y2 y3 y4 y5 y6 y7 yl HY5
      obtain ⟨s1,s2,s3,s4,s5⟩:=HV.out.st
      have HSS:=Lh (fun W (q:H3At w p a b S SA SB D D1 D2 W)=>sstored_any S D W q.sa.sr)
      have HSA:=Lh (fun W (q:H3At w p a b S SA SB D D1 D2 W)=>sstored_any SA D1 W q.aa.sr)
      have HSB:=Lh (fun W (q:H3At w p a b S SA SB D D1 D2 W)=>sstored_any SB D2 W q.bb.sr)
      have hwr:IntKind.i64.wrap (stF SA+stF SB)=stF S:=by rw [IntWalk.i64_in _ (by omega)];exact s1
      generalize stF S=ts at*
      generalize stF SA=ta at*
      generalize stF SB=tb at*
      have hts:(ts==ts)=true:=by simp
      clear s1 s2 s3 s4 s5
      have HK0:=Lh H5.out.k
      have H6:=Lh (H5.out.below (Below.refl _ _).drew)
      have HK1:=Lh H6.out.k
      go_region_held3 (fun W=>D24 p a b S SA SB D D1 D2 W)
       (first | with_reducible exact HK1.out | with_reducible exact HK2.out | with_reducible exact HK3.out | with_reducible exact HK4.out | with_reducible exact HK5.out | with_reducible exact HK0.out)
       (first
       | (go_at_call 24;(first
        | ((with_reducible refine (HSA.out _ H6.out).mono ?_);rintro e w13 ⟨rfl,hb⟩;have H7:=Lh (H6.out.below hb);have HK2:=Lh H7.out.k;clear hb)
        | ((with_reducible refine (HSB.out _ H7.out).mono ?_);rintro e w14 ⟨rfl,hb⟩;have H8:=Lh (H7.out.below hb);have HK3:=Lh H8.out.k;clear hb)
        | ((with_reducible refine (HSS.out _ H8.out).mono ?_);rintro e w15 ⟨rfl,hb⟩;have H9:=Lh (H8.out.below hb);have HK4:=Lh H9.out.k;clear hb)))
       | (go_at_call 21;(with_reducible refine (HAW.out _).mono ?_);rintro e w16 ⟨rfl,hb⟩;have HW:=Lh (H9.out.sa.bel.trans (hb.mono H9.out.sa.bel.size));have HK5:=Lh (H9.out.below hb).k;clear hb))
      go_wp2
      go_ret
      exact ⟨rfl,HW.out⟩
 ·have hxb:(dvE S mid != 0)=true:=bne_iff_ne.2 hx
  generalize dvE S mid=x at*
  generalize dvA S mid=A at*
  generalize dvB S mid=B at*
  clear hx HSR HM
  obtain ⟨t0,t1,t2,t3,t4,t5,t6,t7,tl⟩:=H4.out.s8.facts
  go_wp2_with fail
  clear t0 t1 t2 t3 t4 t5 t6 t7 tl
  refine (HDV.out _ H4.out).mono ?_
  rintro e w5 ⟨D1,D2,rfl,-,-,-,-,hb⟩
  have H5:=Lh (((H4.out.below hb).alloc (.cells #[.bool A.lv,.int .i64 A.lo,.int .i64 A.hi,.slice D1.A A.cs.length D1.c,.int .i64 A.hd,.int .i64 A.sz,.slice D1.A2 A.l.length D1.c2,.slice D1.A3 A.h.length D1.c3] 33)).alloc (.cells #[.bool B.lv,.int .i64 B.lo,.int .i64 B.hi,.slice D2.A B.cs.length D2.c,.int .i64 B.hd,.int .i64 B.sz,.slice D2.A2 B.l.length D2.c2,.slice D2.A3 B.h.length D2.c3] 33))
  obtain ⟨t0,t1,t2,t3,t4,t5,t6,t7,tl⟩:=(H4.out.below hb).s8.facts
  clear hb H4
  rcases hc with hc | ⟨hc,h1⟩ | ⟨hc,h1,h2⟩
  all_goals
   rw [hc] at t0
   clear hc
   go_wp2_with fail
   refine (HAW.out _).mono ?_
   rintro e w6 ⟨rfl,hb⟩
   have H6:=Lh (H5.out.below hb)
   clear hb t0 t1 t2 t3 t4 t5 t6 t7 tl
   go_wp2
   go_ret
   exact ⟨rfl,H6.out.bel⟩
/-! The row's step, as the guide's shell has it. -/
namespace shardHalves
open Go.ChangeShapes Go.WideShapes Go.ChangeAt
open Go.ChangeMaps (open_string shut_string)
theorem own:ownKnob Tryz.prog.godebug=none:=by kernel_rfl
theorem laidOut:laidOutB Tryz.prog=true:=by kernel_rfl
set_option maxRecDepth 100000 in
theorem lifted (os:Os) (started:os.Started) (H:Type) (enc:TypeId×Value→H) :
  ReturnsInHanded {} Tryz.checked os 5 .any (Rows.shardHalvesSpec.pre6 enc Tryz.prog Tryz.f5 Rows.shardHalvesRow.domain false) (Rows.shardHalvesSpec.post enc Tryz.prog Tryz.f5 false true false false):=by
 refine returnsInHanded_of_change (C:=Tryz.checked) own started (by kernel_rfl) Tryz.func5
  (ChangeSpec.witness6 (enc:=enc) (C:=Tryz.checked) false ⟨#[],#[.slice none 0 0],[]⟩ 8 (by kernel_rfl) (by kernel_rfl) (by kernel_rfl) (by kernel_rfl)) ?_
 intro W base args ds gs before hval0 hW hcnd _
 have hval:∀ (j:Nat) t v,Tryz.f5.params[j]? = some t→args[j]? = some v→Value.okWide Tryz.prog W .any base t v:=hval0
 have hW':=hW
 obtain ⟨p,q,hA0,hV,rfl,hfz,hnd⟩:=hW
 have hA:DataW.TrodAll enc Tryz.prog W 0 (fun _=>true) true Tryz.f5.params.toList args.toList ds p:=hA0
 rw [Tryz.params5] at hA hval
 obtain ⟨v0,vs0,d0,ds0,p0,q0,hargs,rfl,rfl,h0,r0⟩:=trodAll_cons hA
 obtain ⟨rfl,rfl,rfl⟩:=trodAll_nil r0
 obtain rfl:args = #[v0]:=by cases args;simp_all
 obtain ⟨rfl,rfl⟩:=trodVars_none hV
 obtain ⟨a0,len0,cap0,rfl⟩:=okWide_slice Tryz.underlying22 (hval 0 22 v0 rfl rfl)
 have k0:=h0
 have lt0:∀ x∈p0,x.block<W.heap.size:=by obtain ⟨m,hm⟩:=k0;exact DataW.trod_lt m _ _ _ hm
 obtain ⟨z0,w0⟩:∃ zs,Ns W W.heap.size (.slice a0 len0 cap0) zs:=by
  obtain ⟨fuel,hf⟩:=h0
  rcases open_ints Tryz.underlying22 Tryz.underlying3 (by kernel_rfl) hf with ⟨hcs,_⟩ | ⟨x,l,c,zs,hcs,_,hl,hm,hz,_,hcell,hwz⟩
  ·simp [Value.cells] at hcs
   obtain ⟨rfl,rfl,rfl⟩:=hcs
   exact ⟨[],Ns.nil⟩
  ·simp [Value.cells] at hcs
   obtain ⟨rfl,rfl,rfl⟩:=hcs
   exact Ns.of_cells hl hm (by simpa using hz) hcell hwz
 clear hA0 hval0
 refine (ShardHalves_walk W a0 len0 cap0 z0 w0).mono fun e W' ⟨he,bel⟩=>?_
 subst he
 exact ⟨_,rfl,_,_,_,[],_,[],hW',trodAll_mk1 (shut_bool Tryz.underlying4 _),(trodAll_cons_mk (Below.trod laidOut (by kernel_rfl) (of_decide_eq_true (by kernel_rfl)) k0 bel lt0) trodAll_mk0),rfl,bel.frame _,fun h=>by cases h⟩
theorem over:Rows.shardHalvesRow.holds Tryz.pinned (OpenSpec.ofChange Rows.shardHalvesSpec):=
 OpenClaim.holds_of_wide 5 Tryz.f5 rfl rfl rfl rfl rfl rfl rfl ⟨rfl,rfl,rfl,rfl,rfl⟩ rfl rfl rfl rfl rfl (by kernel_rfl) Tryz.func5 (by kernel_rfl)
  (of_decide_eq_true (by kernel_rfl)) (by unfold Func.isWrapper;first | (rw [if_pos (by decide +kernel)];kernel_rfl) | (rw [if_neg (by decide +kernel)];exact ⟨rfl,rfl⟩))
  (fun os started H enc _=>lifted os started H enc)
/-- The statement. -/
theorem proved:Rows.ShardHalvesSaid:=over
#print axioms proved
end shardHalves
end Go.Proofs.YtncgbldcjfbknaaGreat
