/- What is proved here: parts of the proof: Drd Dnw Awd10 Dow Dmg Dap. -/
import Derived.Test.YtkecnihgjepfeaaGreatJ13
namespace Go.Proofs.YtkecnihgjepfeaaGreat
open Go.RowKit
set_option linter.unusedVariables false
set_option linter.unusedSimpArgs false
set_option maxHeartbeats 8000000
set_option maxRecDepth 20000
def SpP (w:World) (s:Sp) (b:Bool) (e:Ending) (w' : World):Prop:=e=.returned (.tuple #[s.v,.bool b])/\Below w.heap.size w w'
structure DS (w:World) (p q:Nat) (d:Dd) (X:Dx) (W:World):Prop where
 da:DAt w p d X W
 c0:W.cell? ⟨q,0,none⟩=some (.int .i64 0)
 c1:W.cell? ⟨q,1,none⟩=some (.int .i64 0)
 c2:W.cell? ⟨q,2,none⟩=some (.int .i64 0)
 fr:∀ o,W.frozen? ⟨q,o,none⟩=false
 lt:q<W.heap.size
 old:w.heap.size<=q
theorem DS.below {w W W' : World} {p q:Nat} {d:Dd} {X:Dx} (h:DS w p q d X W) (hb:Below W.heap.size W W'):DS w p q d X W':=
 ⟨h.da.below hb,(hb.cell (p:=⟨q,0,none⟩) h.lt).trans h.c0,(hb.cell (p:=⟨q,1,none⟩) h.lt).trans h.c1,(hb.cell (p:=⟨q,2,none⟩) h.lt).trans h.c2,fun o=>(hb.frozen (p:=⟨q,o,none⟩) h.lt).trans (h.fr o),Nat.lt_of_lt_of_le h.lt hb.size,h.old⟩
theorem DS.all {w W:World} {p q:Nat} {d:Dd} {X:Dx} (h:DS w p q d X W):(W.cell? ⟨q,0,none⟩=some (.int .i64 0)/\W.cell? ⟨q,1,none⟩=some (.int .i64 0)/\W.cell? ⟨q,2,none⟩=some (.int .i64 0)/\q<W.heap.size)/\W.frozen? ⟨q,0,none⟩=false/\W.frozen? ⟨q,1,none⟩=false/\W.frozen? ⟨q,2,none⟩=false:=⟨⟨h.c0,h.c1,h.c2,h.lt⟩,h.fr 0,h.fr 1,h.fr 2⟩
theorem DS.out {w W:World} {p q:Nat} {d:Dd} {X:Dx} (h:DS w p q d X W) (a b c:Value):Below w.heap.size w (((W.setCell ⟨q,0,none⟩ a).setCell ⟨q,1,none⟩ b).setCell ⟨q,2,none⟩ c):=
 ((h.da.bel.setCell (p:=⟨q,0,none⟩) h.old _).setCell (p:=⟨q,1,none⟩) h.old _).setCell (p:=⟨q,2,none⟩) h.old _
theorem DS.start {w:World} {d:Dd} {X:Dx} (t u:TypeId) (h:DR w w.heap.size d X):DS w w.heap.size (w.heap.size+1) d X ((w.alloc (.cells #[.int .i64 d.vn,.slice X.A d.l.length X.c,.slice X.A2 d.F.length X.c2] t)).alloc (.cells #[.int .i64 0,.int .i64 0,.int .i64 0] u)):=by
 refine ⟨(DAt.start t h).alloc _,by simp [go_sem],by simp [go_sem],by simp [go_sem],fun o=>by simp [go_sem],by simp,by omega⟩
theorem dspan_any (d:Dd) (X:Dx) (s:Int) (w:World) (hd:DR w w.heap.size d X) :
  Calls Tryz.prog 43 #[dv d X,.int .i64 s] w (SpP w (spnD d s) (spnB d s)):=by
 have H0:=Lh (DS.start 34 113 hd)
 have HVA:=Lh (fun p W (k:DAt w p d X W)=>ddvalid_any d X W k.dr)
 have HFD:=Lh (fun p W (k:DAt w p d X W)=>sfind_any X.A d.l.length X.c d.l s W k.dr.pl)
 have hL:d.l.length<=9223372036854775807:=by have h2:=hd.pl.len.2.2;have h1:=hd.pl.len.2.1;unfold maxLen at h2;omega
 obtain ⟨p,hp⟩:∃ p,p=w.heap.size:=⟨_,rfl⟩
 obtain ⟨q,hq⟩:∃ q,q=w.heap.size+1:=⟨_,rfl⟩
 obtain ⟨R,hR⟩:∃ R,R=spnD d s:=⟨_,rfl⟩
 obtain ⟨R2,hR2⟩:∃ R2,R2=spnB d s:=⟨_,rfl⟩
 rw [<-hR,<-hR2]
 have HRR:=Lh (And.intro hR hR2)
 have HPP:=Lh (show p=w.heap.size/\q=w.heap.size+1/\¬p=q/\¬q=p by omega)
 clear hd hR hR2 hp hq
 by_cases hv:vaD d=0
 ·rw [hv] at HVA
  go_enter Tryz.func43,Tryz.ntmps43
  have HV:=Lh hv
  clear hv
  obtain ⟨⟨x0,x1,x2,xl⟩,-⟩:=H0.out.da.db.all
  go_wp2_with fail
  clear x0 x1 x2 xl
  have H0:=Lh (show DS w p q d X ((w.alloc (.cells #[.int .i64 d.vn,.slice X.A d.l.length X.c,.slice X.A2 d.F.length X.c2] 34)).alloc (.cells #[.int .i64 0,.int .i64 0,.int .i64 0] 113)) from by rw [HPP.out.1,HPP.out.2.1];exact H0.out)
  rw [<-HPP.out.2.1,<-HPP.out.1]
  generalize (w.alloc (.cells #[.int .i64 d.vn,.slice X.A d.l.length X.c,.slice X.A2 d.F.length X.c2] 34)).alloc (.cells #[.int .i64 0,.int .i64 0,.int .i64 0] 113)=w0 at*
  refine (HVA.out _ _ H0.out.da).mono ?_
  rintro e w1 ⟨rfl,hb⟩
  have H1:=Lh (H0.out.below hb)
  clear hb H0 HVA
  obtain ⟨⟨x0,x1,x2,xl⟩,-⟩:=H1.out.da.db.all
  by_cases hi:0<=ixS d.l s
  ·obtain ⟨k,hk,hkl,-,-⟩:=ixS_pos hi
   have HRS:=Lh (show spnD d s=sg d.l k/\spnB d s=true from ⟨by unfold spnD;rw [if_pos ⟨HV.out,hi⟩,hk];rfl,by unfold spnB;exact decide_eq_true ⟨HV.out,hi⟩⟩)
   rw [hk] at HFD
   clear hi hk
   go_wp2_with fail
   refine (HFD.out _ _ H1.out.da).mono ?_
   rintro e w2 ⟨rfl,hb⟩
   have H2:=Lh (H1.out.below hb)
   clear hb H1 HFD x0 x1 x2 xl
   obtain ⟨b,o,hA,hbl,c0,c1,c2⟩:=H2.out.da.dr.pl.atg hkl
   obtain ⟨⟨x0,x1,x2,xl⟩,-⟩:=H2.out.da.db.all
   obtain ⟨⟨y0,y1,y2,yl⟩,f0,f1,f2⟩:=H2.out.all
   obtain ⟨-,-,hpq,hqp⟩:=HPP.out
   have HO:=Lh (H2.out.out (.int .i64 (sg d.l k).lo) (.int .i64 (sg d.l k).hi) (.int .i64 (sg d.l k).sh))
   rw [hA] at x1
   clear hA
   generalize sg d.l k=M at*
   go_wp2
   exact bodyPost_ret (v:=.tuple #[M.v,.bool true]) (by simp only [results,Tryz.results43];go_simp <;> rfl) rfl ⟨by rw [HRR.out.1,HRR.out.2,HRS.out.1,HRS.out.2],HO.out⟩
  ·have HRS:=Lh (show spnD d s=zSp/\spnB d s=false from ⟨by unfold spnD;rw [if_neg (fun h=>hi h.2)],by unfold spnB;exact decide_eq_false (fun h=>hi h.2)⟩)
   rw [(ixS_neg hi).1] at HFD
   clear hi
   go_wp2_with fail
   refine (HFD.out _ _ H1.out.da).mono ?_
   rintro e w2 ⟨rfl,hb⟩
   have H2:=Lh (H1.out.below hb)
   clear hb H1 HFD x0 x1 x2 xl
   obtain ⟨⟨y0,y1,y2,yl⟩,f0,f1,f2⟩:=H2.out.all
   have HO:=Lh (H2.out.out (.int .i64 0) (.int .i64 0) (.int .i64 0))
   go_wp2
   exact bodyPost_ret (v:=.tuple #[zSp.v,.bool false]) (by simp only [results,Tryz.results43];go_simp <;> rfl) rfl ⟨by rw [HRR.out.1,HRR.out.2,HRS.out.1,HRS.out.2],HO.out⟩
 ·have hne:(vaD d != 0)=true:=bne_iff_ne.2 hv
  have HRS:=Lh (show spnD d s=zSp/\spnB d s=false from ⟨by unfold spnD;rw [if_neg (fun h=>hv h.1)],by unfold spnB;exact decide_eq_false (fun h=>hv h.1)⟩)
  clear hv
  generalize vaD d=v at*
  go_enter Tryz.func43,Tryz.ntmps43
  obtain ⟨⟨x0,x1,x2,xl⟩,-⟩:=H0.out.da.db.all
  go_wp2_with fail
  clear x0 x1 x2 xl
  refine (HVA.out _ _ H0.out.da).mono ?_
  rintro e w1 ⟨rfl,hb⟩
  have H1:=Lh (H0.out.below hb)
  clear hb H0 HVA
  obtain ⟨⟨y0,y1,y2,yl⟩,f0,f1,f2⟩:=H1.out.all
  have HO:=Lh (H1.out.out (.int .i64 0) (.int .i64 0) (.int .i64 0))
  go_wp2
  exact bodyPost_ret (v:=.tuple #[zSp.v,.bool false]) (by simp only [results,Tryz.results43];go_simp <;> rfl) rfl ⟨by rw [HRR.out.1,HRR.out.2,HRS.out.1,HRS.out.2],HO.out⟩
theorem dnew_any (s l:Int) (w:World):Calls Tryz.prog 21 #[.int .i64 s,.int .i64 l] w (DE w.heap.size w (nwD s l) (nwE10 s l)):=by
 have HWI:=Lh (fun n lo hi W=>rwithin_any n lo hi W)
 obtain ⟨r,hr⟩:∃ r,r=w.heap.size:=⟨_,rfl⟩
 by_cases h:1<=s/\s<=6/\1<=l/\l<=s
 ·obtain ⟨n,hn⟩:∃ n:Nat,s=n:=⟨s.toNat,by omega⟩
  obtain ⟨m,hm⟩:∃ m:Nat,l=m:=⟨l.toNat,by omega⟩
  subst hn
  subst hm
  have e1:nwE10 n m=0:=by unfold nwE10;rw [if_pos h]
  have e2:nwD n m=⟨1,nwL m m,List.replicate n (-1)⟩:=by unfold nwD;rw [e1];simp
  have HM:=Lh (show (1<=n/\n<=6)/\(1<=m/\m<=n) by omega)
  have q1:wiR n 1 6=true:=by simp [wiR];omega
  have q2:wiR m 1 n=true:=by simp [wiR];omega
  rw [e1,e2]
  clear e1 e2 h
  obtain ⟨F,hF⟩:∃ F,F=List.replicate n (-1:Int):=⟨_,rfl⟩
  rw [<-hF]
  obtain ⟨i0,hi0,hz0⟩:=Option.map_eq_some_iff.1 info_sp
  simp only [Prod.mk.injEq] at hz0
  have HI:=Lh hi0
  have HZ:=Lh hz0
  clear hi0 hz0
  have HRP:=Lh (fun xb W=>repeat_one xb n W HM.out.1.1 HM.out.1.2)
  rw [<-hF] at HRP
  clear hF
  have HR0:=Lh hr
  go_enter Tryz.func21,Tryz.ntmps21
  go_wp2_with fail
  refine (HWI.out _ _ _ _).mono ?_
  rintro e w1 ⟨rfl,hw1⟩
  rw [q1]
  go_wp2_with fail
  refine (HWI.out _ _ _ _).mono ?_
  rintro e w2 ⟨rfl,hw2⟩
  rw [q2]
  go_wp2_with fail
  subst hw2
  have HW1:=Lh (show Db10 w1 r zD10 zDx/\w1.heap.size=r+1/\Below w.heap.size w w1 from by
   rw [<-hw1,hr]
   exact ⟨Db10.zero w _,by simp,(Below.refl _ _).alloc (nLR _) _⟩)
  rw [<-hr]
  clear hw1 hr
  refine (HRP.out _ _ (by simp [go_sem]) (by simp)).mono ?_
  rintro e w3 ⟨v,rfl,ho,hb⟩
  obtain ⟨A2,c2,rfl⟩:=own_form ho
  have HN:=Lh (NA.start (w:=w) HR0.out ((HW1.out.2.2.alloc HW1.out.2.2.size (.cells #[.int .i64 (-1)] 3)).trans (hb.mono (by have:=HW1.out.2.2.size;simp;omega))) ((HW1.out.1.alloc (.cells #[.int .i64 (-1)] 3)).up hb) (own_low ho (by have:=HW1.out.2.1;simp;omega)) 34)
  obtain ⟨y,hy⟩:∃ y,y=w3.heap.size:=⟨_,rfl⟩
  clear ho hb HRP HW1
  go_wp2_with fail
  rw [<-hy] at HN ⊢
  generalize w3.alloc (.cells #[.int .i64 1,.slice none 0 0,.slice A2 F.length c2] 34)=w4 at*
  clear hy
  go_loopw [23] (fun iv wr=>∃ (k:Nat) (A:Option Addr) (c:Nat),iv=.int .i64 k/\k<=m/\Hid (NA w r y ⟨1,nwL m k,F⟩ ⟨A,c,A2,c2⟩ wr)) (fun iv _=>m - (intOf iv).toNat)
  case atStart=>exact ⟨0,none,0,rfl,Nat.zero_le _,HN⟩
  case round=>
   obtain ⟨k,A,c,rfl,hkm,HA⟩:=hrel
   by_cases hk:k<m
   ·obtain ⟨L,hL⟩:∃ L,L=nwL m k:=⟨_,rfl⟩
    rw [<-hL] at HA
    have HL:=Lh (show L.length=k/\nwL m (k+1)=L++[⟨(k:Int)*65536 / m,((k:Int)+1)*65536 / m - 1,k⟩] from ⟨by rw [hL,nwL_len],by rw [hL];exact nwL_succ m k⟩)
    clear hL
    have hk' : (k:Int)<(m:Int):=by omega
    clear hkm hk
    have h56:k<=5/\m<=6:=by have:=HM.out;omega
    have HL6:=Lh h56
    have hw1:IntKind.i64.wrap ((k:Int)*65536)=(k:Int)*65536:=IntWalk.i64_in _ (by omega)
    have hw2:IntKind.i64.wrap ((k:Int)+1)=(k:Int)+1:=IntWalk.i64_in _ (by omega)
    have hw3:IntKind.i64.wrap (((k:Int)+1)*65536)=((k:Int)+1)*65536:=IntWalk.i64_in _ (by omega)
    obtain ⟨a,ha⟩:∃ a,a=((k:Int)*65536) / (m:Int):=⟨_,rfl⟩
    obtain ⟨b,hb⟩:∃ b,b=(((k:Int)+1)*65536) / (m:Int):=⟨_,rfl⟩
    have ht1:((k:Int)*65536).tdiv (m:Int)=a:=by rw [ha];exact Int.tdiv_eq_ediv_of_nonneg (by omega)
    have ht2:(((k:Int)+1)*65536).tdiv (m:Int)=b:=by rw [hb];exact Int.tdiv_eq_ediv_of_nonneg (by omega)
    have hra:0<=a/\a<=400000:=by
     rw [ha]
     exact ⟨Int.ediv_nonneg (by omega) (by omega),Int.le_trans (Int.ediv_le_self _ (by omega)) (by omega)⟩
    have hrb:0<=b/\b<=400000:=by
     rw [hb]
     exact ⟨Int.ediv_nonneg (by omega) (by omega),Int.le_trans (Int.ediv_le_self _ (by omega)) (by omega)⟩
    have hw4:IntKind.i64.wrap a=a:=IntWalk.i64_in _ (by omega)
    have hw5:IntKind.i64.wrap b=b:=IntWalk.i64_in _ (by omega)
    have hw6:IntKind.i64.wrap (b - 1)=b - 1:=IntWalk.i64_in _ (by omega)
    rw [<-ha,<-hb] at HL
    have hm0:¬(m:Int)=0:=by omega
    have hm1:((m:Int)==0)=false:=by simpa using hm0
    have hm2:¬m=0:=by omega
    have hm3:((m==0):Bool)=false:=by simpa using hm2
    clear ha hb h56
    obtain ⟨⟨x0,x1,x2,xl⟩,f0,f1,f2⟩:=HA.out.xb.all
    dsimp only at x0 x1 x2
    clear x0 x2 f0 f2
    go_wp2
    go_region_law (refine step_append_lies _ (by rfl) _ _ _ (by rfl) (r+1) 113 i0 _ 3 24 Tryz.underlying32 HI.out HZ.out.1 HZ.out.2.1 HZ.out.2.2 rfl (by omega) (.slice A L.length c) L.length (scs L) (by rfl) (HA.out.drew.alloc _).ol ⟨wr.heap.size,0,none⟩ 1 1 (Sp.mk a (b - 1) k).l (by rfl) (by rfl) (World.news_of_block (cs:=(Sp.mk a (b - 1) k).l.toArray) (t:=113) (fr:=(0,0)) (heap_alloc_new wr.drew _)) (Sp.l_one _) (by omega) (by have:=HL.out;have:=HL6.out;unfold maxLen;omega) (by have:=HL.out;have:=HL6.out;omega) (Nat.succ_le_of_lt (HA.out.drew.alloc _).rb.lt) _ rfl ?_;intro g1 cp1 w8 hown1 hgrow1 hat1 hlt1;have HP8:=Lh ((HA.out.drew.alloc _).app (S:=Sp.mk a (b - 1) k) hown1 hgrow1 hat1);obtain ⟨z1,f1,xl⟩:=HP8.out.1;clear hown1 hgrow1 hat1 hlt1)
    all_goals
     go_wp2
     exact ⟨⟨k+1,_,_,by rw [Int.natCast_add];rfl,by omega,Lh (by rw [HL.out.2];exact HP8.out.2)⟩,by simp [intOf];omega⟩
   ·have hke:k=m:=by omega
    subst hke
    have HO:=Lh HA.out.out
    obtain ⟨⟨x0,x1,x2,xl⟩,f0,f1,f2⟩:=HA.out.xb.all
    obtain ⟨⟨r0,r1,r2,rl⟩,g0,g1,g2⟩:=HA.out.rb.all
    have hry:¬r=y/\¬y=r:=by have:=HA.out.ne;omega
    obtain ⟨hry1,hry2⟩:=hry
    dsimp only at x0 x1 x2
    clear hkm hk
    go_wp2
    exact bodyPost_ret (v:=.tuple #[dv ⟨1,nwL k k,F⟩ ⟨A,c,A2,c2⟩,.int .i64 0]) (by simp only [results,Tryz.results21];go_simp <;> rfl) rfl HO.out
 ·have HEE:=Lh (show nwE10 s l=1/\nwD s l=zD10 from by
   have e1:nwE10 s l=1:=by unfold nwE10;rw [if_neg h]
   exact ⟨e1,by unfold nwD;rw [e1];rfl⟩)
  obtain ⟨E1,hE1⟩:∃ E1,E1=nwE10 s l:=⟨_,rfl⟩
  obtain ⟨D1,hD1⟩:∃ D1,D1=nwD s l:=⟨_,rfl⟩
  rw [<-hE1,<-hD1] at HEE
  rw [<-hE1,<-hD1]
  clear hE1 hD1
  have HO:=Lh (fun W hb=>new_out0 (w:=w) (W:=W) rfl hb 1)
  have hq:wiR s 1 6=false\/(wiR s 1 6=true/\wiR l 1 s=false):=by
   simp only [wiR,decide_eq_false_iff_not,decide_eq_true_eq];omega
  clear h hr
  rcases hq with q1 | ⟨q1,q2⟩
  ·go_enter Tryz.func21,Tryz.ntmps21
   go_wp2_with fail
   refine (HWI.out _ _ _ _).mono ?_
   rintro e w1 ⟨rfl,hw1⟩
   rw [q1]
   have HO1:=Lh (HO.out w1 (by rw [<-hw1];exact (Below.refl _ _).alloc (nLR _) _))
   have HD:=Lh (show Db10 w1 w.heap.size zD10 zDx from by rw [<-hw1];exact Db10.zero w _)
   clear hw1
   obtain ⟨⟨r0,r1,r2,rl⟩,g0,g1,g2⟩:=HD.out.all
   go_wp2
   exact bodyPost_ret (v:=.tuple #[.agg #[.int .i64 0,.slice none 0 0,.slice none 0 0],.int .i64 1]) (by simp only [results,Tryz.results21];go_simp <;> rfl) rfl (by rw [HEE.out.1,HEE.out.2];exact HO1.out)
  ·go_enter Tryz.func21,Tryz.ntmps21
   go_wp2_with fail
   refine (HWI.out _ _ _ _).mono ?_
   rintro e w1 ⟨rfl,hw1⟩
   rw [q1]
   go_wp2_with fail
   refine (HWI.out _ _ _ _).mono ?_
   rintro e w2 ⟨rfl,hw2⟩
   subst hw2
   rw [q2]
   have HO1:=Lh (HO.out w1 (by rw [<-hw1];exact (Below.refl _ _).alloc (nLR _) _))
   have HD:=Lh (show Db10 w1 w.heap.size zD10 zDx from by rw [<-hw1];exact Db10.zero w _)
   clear hw1
   obtain ⟨⟨r0,r1,r2,rl⟩,g0,g1,g2⟩:=HD.out.all
   go_wp2
   exact bodyPost_ret (v:=.tuple #[.agg #[.int .i64 0,.slice none 0 0,.slice none 0 0],.int .i64 1]) (by simp only [results,Tryz.results21];go_simp <;> rfl) rfl (by rw [HEE.out.1,HEE.out.2];exact HO1.out)
theorem vaD_dec {d:Dd} (h1:rgD d) (h2:cvD 0 d.l=true) (h3:msD d.F.length d.l=true) (h4:∀ j,j<d.l.length->∀ i,i<j->(sg d.l i).sh≠(sg d.l j).sh) (h5:∀ i,i<d.F.length->(-1<=ig d.F i/\ig d.F i<d.F.length)/\(hasS d.l (i:Int)->ig d.F i = -1))
  (h6:∀ i,i<d.F.length->fwD d.F d.F.length (i:Int)<0):vaD d=0:=by
 refine vaD_ok h1 h2 h3 ?_ ?_
 ·have:¬duD d.l:=fun ⟨i,j,hij,hj,he⟩=>h4 j hj i hij he
  simp [duB,this]
 ·have:foD d.l d.F:=⟨h5,h6⟩
  simp [foB,this]
structure DD (w:World) (p:Nat) (d:Dd) (X:Dx) (W:World):Prop where
 db:Db10 W p d X
 dr:DR W W.heap.size d X
 old:w.heap.size<=p
 bel:Below w.heap.size w W
end Go.Proofs.YtkecnihgjepfeaaGreat
namespace Go.Proofs.YtkecnihgjepfeaaGreat
set_option linter.unusedVariables false
set_option linter.unusedSimpArgs false
set_option maxHeartbeats 8000000
set_option maxRecDepth 20000
theorem nw_va {n m:Nat} (h1:1<=m) (h2:m<=n) (h3:n<=6):vaD (nwD n m)=0:=by
 have hE:nwE10 n m=0:=by unfold nwE10;rw [if_pos (by omega)]
 have e:nwD n m=⟨1,nwL m m,List.replicate n (-1)⟩:=by unfold nwD;rw [if_pos hE];simp
 rw [e]
 clear hE e
 have hn:n=1\/n=2\/n=3\/n=4\/n=5\/n=6:=by omega
 have hm:m=1\/m=2\/m=3\/m=4\/m=5\/m=6:=by omega
 rcases hn with rfl | rfl | rfl | rfl | rfl | rfl <;> rcases hm with rfl | rfl | rfl | rfl | rfl | rfl
 all_goals first
  | (exfalso;omega)
  | exact vaD_dec (by unfold rgD;decide +kernel) (by decide +kernel) (by decide +kernel) (by decide +kernel) (by decide +kernel) (by decide +kernel)
end Go.Proofs.YtkecnihgjepfeaaGreat
namespace Go.Proofs.YtkecnihgjepfeaaGreat
open Go.RowKit
set_option linter.unusedVariables false
set_option linter.unusedSimpArgs false
set_option maxHeartbeats 8000000
set_option maxRecDepth 20000
abbrev MgS (p q g f u:Nat) (d:Dd) (X:Dx) (e:Ed) (W:World):Prop:=W.cell? ⟨p,1,none⟩=some (.slice (some ⟨g,0,none⟩) d.l.length X.c)/\W.cell? ⟨q,2,none⟩=some (.int .i64 e.to)/\W.cell? ⟨g,f*3,none⟩=some (.int .i64 (sg d.l f).lo)/\W.cell? ⟨g,u*3+1,none⟩=some (.int .i64 (sg d.l u).hi)
structure Ab (w:World) (p q r:Nat) (d:Dd) (X:Dx) (e:Ed) (W:World):Prop where
 da:DAt w p d X W
 eb:EB W q e
 rb:Db10 W r zD10 zDx
 ne:w.heap.size<=p/\p<q/\q<r
 of:∀ z,w.heap.size<=z->DOff d X z
section
variable {w W W' : World} {p q r:Nat} {d:Dd} {X:Dx} {e:Ed}
end
structure Nx (w:World) (p q r:Nat) (d:Dd) (X:Dx) (e:Ed) (oL oF:Option Value) (oX:Option Nat) (W:World):Prop where
 ab:Ab w p q r d X e W
 fl:∀ v,oL=some v->W.ownsRow (r+1) 113 3 v d.l.length (scs d.l)
 ff:∀ v,oF=some v->W.ownsRow (r+1) 3 1 v d.F.length (ics d.F)
 fx:∀ x,oX=some x->Db10 W x zD10 zDx/\r<x
 d1:∀ u v,oL=some u->oF=some v->∀ k,u.ownBlock=some k->v.ownBlock≠some k
 d2:∀ u x,oL=some u->oX=some x->∀ k,u.ownBlock=some k->k≠x
 d3:∀ u x,oF=some u->oX=some x->∀ k,u.ownBlock=some k->k≠x
section
variable {w W W' : World} {p q r:Nat} {d:Dd} {X:Dx} {e:Ed} {a b:Option Value} {c:Option Nat}
end
section
variable {w W W' : World} {p q r:Nat} {d:Dd} {X:Dx} {e:Ed} {A A2:Option Addr} {c c2:Nat}
end
end Go.Proofs.YtkecnihgjepfeaaGreat
