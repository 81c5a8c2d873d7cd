/- What is proved here: parts of the proof: Yn Yx Ya Shnk Sht Shs. -/
import Derived.Test.YtkecnihgjepfeaaGreatJ24
namespace Go.Proofs.YtkecnihgjepfeaaGreat
open Go.RowKit
set_option linter.unusedVariables false
set_option linter.unusedSimpArgs false
set_option maxHeartbeats 8000000
set_option maxRecDepth 20000
noncomputable def enE (s:St) (S:Sh) (ep lim:Int):Int:=if ¬nbP s.sq then 1 else if s.sq % 2=0 then 7 else if shV S≠0 then shV S else if (wi ep 0 65536&&wi lim 1 8)=true then 0 else 1
noncomputable def enT (s:St) (S:Sh) (ep lim:Int):St:=if enE s S ep lim=0 then ⟨s.sq+1,ep,ctR S ep lim,ctL S ep lim⟩ else zSt
section
variable {s:St} {S:Sh} {ep lim:Int}
theorem en_no {x:Int} (h:enE s S ep lim=x) (hx:x≠0):enT s S ep lim=zSt:=by unfold enT;rw [if_neg (by rw [h];exact hx)]
theorem enE_1 (h:¬nbP s.sq):enE s S ep lim=1:=if_pos h
theorem enE_7 (h:nbP s.sq) (h1:s.sq % 2=0):enE s S ep lim=7:=by unfold enE;rw [if_neg (fun g=>g h),if_pos h1]
theorem enE_v (h:nbP s.sq) (h1:¬s.sq % 2=0) (h2:shV S≠0):enE s S ep lim=shV S:=by unfold enE;rw [if_neg (fun g=>g h),if_neg h1,if_pos h2]
theorem enE_n (h:nbP s.sq) (h1:¬s.sq % 2=0) (h2:shV S=0) (h3:(wi ep 0 65536&&wi lim 1 8)=false):enE s S ep lim=1:=by unfold enE;rw [if_neg (fun g=>g h),if_neg h1,if_neg (fun g=>g h2),h3];rfl
theorem enE_0 (h:nbP s.sq) (h1:¬s.sq % 2=0) (h2:shV S=0) (h3:wi ep 0 65536=true) (h4:wi lim 1 8=true):enE s S ep lim=0:=by unfold enE;rw [if_neg (fun g=>g h),if_neg h1,if_neg (fun g=>g h2),h3,h4];rfl
end
structure YB (w:World) (p q:Nat) (s:St) (S:Sh) (D:Sx) (W:World):Prop where
 sa:SAt w q S D W
 c0:W.cell? ⟨p,0,none⟩=some (.int .i64 s.sq)
 c1:W.cell? ⟨p,1,none⟩=some (.int .i64 s.ep)
 c2:W.cell? ⟨p,2,none⟩=some (.int .i64 s.rd)
 c3:W.cell? ⟨p,3,none⟩=some (.int .i64 s.ls)
 lt:p<W.heap.size
section
variable {w W W' : World} {p q:Nat} {s:St} {S:Sh} {D:Sx}
theorem YB.below (h:YB w p q s S D W) (hb:Below W.heap.size W W'):YB w p q s S D W':=
 ⟨h.sa.below hb,(hb.cell (p:=⟨p,0,none⟩) h.lt).trans h.c0,(hb.cell (p:=⟨p,1,none⟩) h.lt).trans h.c1,(hb.cell (p:=⟨p,2,none⟩) h.lt).trans h.c2,(hb.cell (p:=⟨p,3,none⟩) h.lt).trans h.c3,Nat.lt_of_lt_of_le h.lt hb.size⟩
theorem YB.start (s:St) (h:SR w w.heap.size S D) (t u:TypeId):YB w w.heap.size (w.heap.size+1) s S D ((w.alloc (.cells #[.int .i64 s.sq,.int .i64 s.ep,.int .i64 s.rd,.int .i64 s.ls] t)).alloc (.cells #[.bool S.lv,.int .i64 S.lo,.int .i64 S.hi,.slice D.A S.cs.length D.c,.int .i64 S.hd,.int .i64 S.sz,.slice D.A2 S.l.length D.c2,.slice D.A3 S.h.length D.c3] u)):=by
 have hb:=(Below.refl w.heap.size w).alloc (nLR _) (.cells #[.int .i64 s.sq,.int .i64 s.ep,.int .i64 s.rd,.int .i64 s.ls] t)
 have k:=SAt.start u (h.up hb)
 have e:(w.alloc (.cells #[.int .i64 s.sq,.int .i64 s.ep,.int .i64 s.rd,.int .i64 s.ls] t)).heap.size=w.heap.size+1:=by simp
 rw [e] at k
 refine ⟨⟨k.s8,k.sr,k.off,hb.trans (k.bel.mono (by rw [e];omega)),by omega⟩,by simp [go_sem],by simp [go_sem],by simp [go_sem],by simp [go_sem],by simp;omega⟩
theorem YB.all (h:YB w p q s S D W):(W.cell? ⟨p,0,none⟩=some (.int .i64 s.sq)/\W.cell? ⟨p,1,none⟩=some (.int .i64 s.ep)/\W.cell? ⟨p,2,none⟩=some (.int .i64 s.rd)/\W.cell? ⟨p,3,none⟩=some (.int .i64 s.ls)/\p<W.heap.size)/\(W.cell? ⟨q,0,none⟩=some (.bool S.lv)/\W.cell? ⟨q,1,none⟩=some (.int .i64 S.lo)/\W.cell? ⟨q,2,none⟩=some (.int .i64 S.hi)/\W.cell? ⟨q,3,none⟩=some (.slice D.A S.cs.length D.c)/\W.cell? ⟨q,4,none⟩=some (.int .i64 S.hd)/\W.cell? ⟨q,5,none⟩=some (.int .i64 S.sz)/\W.cell? ⟨q,6,none⟩=some (.slice D.A2 S.l.length D.c2)/\W.cell? ⟨q,7,none⟩=some (.slice D.A3 S.h.length D.c3)/\q<W.heap.size):=⟨⟨h.c0,h.c1,h.c2,h.c3,h.lt⟩,h.sa.s8.facts⟩
end
theorem yenderr_any (s:St) (S:Sh) (D:Sx) (ep lim:Int) (w:World) (hs:SR w w.heap.size S D) :
  Calls Tryz.prog 124 #[s.v,sv S D,.int .i64 ep,.int .i64 lim] w fun e w'=>e=.returned (.int .i64 (enE s S ep lim))/\Below w.heap.size w w':=by
 have H0:=Lh (YB.start s hs 63 72)
 have HV:=Lh (fun p q W (k:YB w p q s S D W)=>svalid_any S D W k.sa.sr)
 have HN:=Lh (fun W=>ynumber_any s.sq W)
 have HO:=Lh (fun W=>yodd_any s.sq W)
 have HE:=Lh (fun W=>ywithin_any ep 0 65536 W)
 have HL:=Lh (fun W=>ywithin_any lim 1 8 W)
 obtain ⟨p,hp⟩:∃ p,p=w.heap.size:=⟨_,rfl⟩
 obtain ⟨q,hq⟩:∃ q,q=w.heap.size+1:=⟨_,rfl⟩
 obtain ⟨R,hR⟩:∃ R,R=enE s S ep lim:=⟨_,rfl⟩
 rw [<-hR]
 have HRR:=Lh hR
 have HPP:=Lh (And.intro hp hq)
 clear hs hR hp hq
 go_enter Tryz.func124,Tryz.ntmps124
 obtain ⟨⟨x0,x1,x2,x3,xl⟩,y0,y1,y2,y3,y4,y5,y6,y7,yl⟩:=H0.out.all
 go_wp2_with fail
 clear x0 x1 x2 x3 xl y0 y1 y2 y3 y4 y5 y6 y7 yl
 rw [<-HPP.out.2,<-HPP.out.1] at H0
 generalize (w.alloc (.cells #[.int .i64 s.sq,.int .i64 s.ep,.int .i64 s.rd,.int .i64 s.ls] 63)).alloc (.cells #[.bool S.lv,.int .i64 S.lo,.int .i64 S.hi,.slice D.A S.cs.length D.c,.int .i64 S.hd,.int .i64 S.sz,.slice D.A2 S.l.length D.c2,.slice D.A3 S.h.length D.c3] 72)=w2 at*
 rw [<-HPP.out.2,<-HPP.out.1]
 by_cases h1:nbP s.sq
 ·rw [nbB_yes h1] at HN
  refine (HN.out _).mono ?_
  rintro e w3 ⟨rfl,rfl⟩
  clear HN
  obtain ⟨⟨x0,x1,x2,x3,xl⟩,y0,y1,y2,y3,y4,y5,y6,y7,yl⟩:=H0.out.all
  by_cases h2:s.sq % 2=0
  ·rw [evB_yes h2] at HO
   have HX:=Lh (enE_7 (S:=S) (ep:=ep) (lim:=lim) h1 h2)
   clear h1 h2
   go_wp2_with fail
   refine (HO.out _).mono ?_
   rintro e w4 ⟨rfl,rfl⟩
   go_wp2
   go_ret
   exact ⟨by rw [HRR.out,HX.out];rfl,H0.out.sa.bel⟩
  ·rw [evB_no h2] at HO
   have HXV:=Lh (enE_v (S:=S) (ep:=ep) (lim:=lim) h1 h2)
   have HXN:=Lh (enE_n (S:=S) (ep:=ep) (lim:=lim) h1 h2)
   have HX0:=Lh (enE_0 (S:=S) (ep:=ep) (lim:=lim) h1 h2)
   clear h1 h2
   go_wp2_with fail
   refine (HO.out _).mono ?_
   rintro e w4 ⟨rfl,rfl⟩
   go_wp2_with fail
   clear x0 x1 x2 x3 xl y0 y1 y2 y3 y4 y5 y6 y7 yl
   refine (HV.out _ _ _ H0.out).mono ?_
   rintro e w4 ⟨rfl,hb⟩
   have H1:=Lh (H0.out.below hb)
   clear hb HV H0 HO
   by_cases h3:shV S=0
   ·rw [h3]
    have h3' : (shV S != 0)=false:=by simpa using h3
    cases h4:wi ep 0 65536 with
    | false=>
     have HX:=Lh (HXN.out h3 (by rw [h4];rfl))
     rw [h4] at HE
     clear h3 h3' h4
     go_wp2_with fail
     refine (HE.out _).mono ?_
     rintro e w5 ⟨rfl,rfl⟩
     go_wp2
     go_ret
     exact ⟨by rw [HRR.out,HX.out];rfl,H1.out.sa.bel⟩
    | true=>
     rw [h4] at HE
     cases h5:wi lim 1 8 with
     | false=>
      have HX:=Lh (HXN.out h3 (by rw [h4,h5];rfl))
      rw [h5] at HL
      clear h3 h3' h4 h5
      go_wp2_with fail
      refine (HE.out _).mono ?_
      rintro e w5 ⟨rfl,rfl⟩
      go_wp2_with fail
      refine (HL.out _).mono ?_
      rintro e w6 ⟨rfl,rfl⟩
      go_wp2
      go_ret
      exact ⟨by rw [HRR.out,HX.out];rfl,H1.out.sa.bel⟩
     | true=>
      have HX:=Lh (HX0.out h3 h4 h5)
      rw [h5] at HL
      clear h3 h3' h4 h5
      go_wp2_with fail
      refine (HE.out _).mono ?_
      rintro e w5 ⟨rfl,rfl⟩
      go_wp2_with fail
      refine (HL.out _).mono ?_
      rintro e w6 ⟨rfl,rfl⟩
      go_wp2
      go_ret
      exact ⟨by rw [HRR.out,HX.out];rfl,H1.out.sa.bel⟩
   ·have HX:=Lh (HXV.out h3)
    have h3' : (shV S != 0)=true:=bne_iff_ne.2 h3
    clear h3
    generalize shV S=v at*
    go_wp2
    go_ret
    exact ⟨by rw [HRR.out,HX.out];rfl,H1.out.sa.bel⟩
 ·rw [nbB_no h1] at HN
  have HX:=Lh (enE_1 (S:=S) (ep:=ep) (lim:=lim) h1)
  clear h1
  refine (HN.out _).mono ?_
  rintro e w3 ⟨rfl,rfl⟩
  go_wp2
  go_ret
  exact ⟨by rw [HRR.out,HX.out];rfl,H0.out.sa.bel⟩
theorem ybegin_any (s:St) (w:World):Calls Tryz.prog 112 #[s.v] w (StE w (bgT s) (bgE s)):=by
 have HN:=Lh (fun W=>ynumber_any s.sq W)
 have HO:=Lh (fun W=>yodd_any s.sq W)
 by_cases h1:nbP s.sq
 ·rw [nbB_yes h1] at HN
  by_cases h2:s.sq % 2=0
  ·rw [evB_yes h2] at HO
   by_cases h3:1099511627774<s.sq
   ·have HR:=Lh (bg_6 h1 (by omega) h3)
    clear h1 h2
    go_enter Tryz.func112,Tryz.ntmps112
    go_wp2_with fail
    refine (HN.out _).mono ?_
    rintro e w3 ⟨rfl,rfl⟩
    go_wp2_with fail
    refine (HO.out _).mono ?_
    rintro e w4 ⟨rfl,rfl⟩
    go_wp2
    exact bodyPost_ret (v:=.tuple #[zSt.v,.int .i64 6]) (by simp only [results,Tryz.results112];go_simp <;> rfl) rfl ⟨by rw [HR.out.1,HR.out.2],below2 w _ _⟩
   ·have HR:=Lh (bg_0 h1 (by omega) h3)
    have hw:IntKind.i64.wrap (s.sq+1)=s.sq+1:=IntWalk.i64_in _ (by have:=h1.1;omega)
    have hw2:wrap64 (s.sq+1)=s.sq+1:=IntWalk.wrap64_in _ (by have:=h1.1;omega)
    clear h1 h2
    go_enter Tryz.func112,Tryz.ntmps112
    go_wp2_with fail
    refine (HN.out _).mono ?_
    rintro e w3 ⟨rfl,rfl⟩
    go_wp2_with fail
    refine (HO.out _).mono ?_
    rintro e w4 ⟨rfl,rfl⟩
    go_wp2
    exact bodyPost_ret (v:=.tuple #[.agg #[.int .i64 (s.sq+1),.int .i64 s.ep,.int .i64 s.rd,.int .i64 s.ls],.int .i64 0]) (by simp only [results,Tryz.results112];go_simp <;> rfl) rfl ⟨by rw [HR.out.1,HR.out.2],below2 w _ _⟩
  ·rw [evB_no h2] at HO
   have HR:=Lh (bg_7 h1 (by omega))
   clear h1 h2
   go_enter Tryz.func112,Tryz.ntmps112
   go_wp2_with fail
   refine (HN.out _).mono ?_
   rintro e w3 ⟨rfl,rfl⟩
   go_wp2_with fail
   refine (HO.out _).mono ?_
   rintro e w4 ⟨rfl,rfl⟩
   go_wp2
   exact bodyPost_ret (v:=.tuple #[zSt.v,.int .i64 7]) (by simp only [results,Tryz.results112];go_simp <;> rfl) rfl ⟨by rw [HR.out.1,HR.out.2],below2 w _ _⟩
 ·rw [nbB_no h1] at HN
  have HR:=Lh (bg_1 h1)
  clear h1
  go_enter Tryz.func112,Tryz.ntmps112
  go_wp2_with fail
  refine (HN.out _).mono ?_
  rintro e w3 ⟨rfl,rfl⟩
  go_wp2
  exact bodyPost_ret (v:=.tuple #[zSt.v,.int .i64 1]) (by simp only [results,Tryz.results112];go_simp <;> rfl) rfl ⟨by rw [HR.out.1,HR.out.2],below2 w _ _⟩
structure YC (w:World) (p q r:Nat) (s:St) (S:Sh) (D:Sx) (W:World):Prop where
 yb:YB w p q s S D W
 r0:W.cell? ⟨r,0,none⟩=some (.int .i64 0)
 r1:W.cell? ⟨r,1,none⟩=some (.int .i64 0)
 r2:W.cell? ⟨r,2,none⟩=some (.int .i64 0)
 r3:W.cell? ⟨r,3,none⟩=some (.int .i64 0)
 fr:∀ o,W.frozen? ⟨r,o,none⟩=false
 lt:r<W.heap.size
 old:w.heap.size<=r
section
variable {w W W' : World} {p q r:Nat} {s:St} {S:Sh} {D:Sx}
theorem YC.below (h:YC w p q r s S D W) (hb:Below W.heap.size W W'):YC w p q r s S D W':=
 ⟨h.yb.below hb,(hb.cell (p:=⟨r,0,none⟩) h.lt).trans h.r0,(hb.cell (p:=⟨r,1,none⟩) h.lt).trans h.r1,(hb.cell (p:=⟨r,2,none⟩) h.lt).trans h.r2,(hb.cell (p:=⟨r,3,none⟩) h.lt).trans h.r3,fun o=>(hb.frozen (p:=⟨r,o,none⟩) h.lt).trans (h.fr o),Nat.lt_of_lt_of_le h.lt hb.size,h.old⟩
theorem YC.start (s:St) (h:SR w w.heap.size S D) (t u:TypeId):YC w w.heap.size (w.heap.size+1) (w.heap.size+1+1) s S D (((w.alloc (.cells #[.int .i64 s.sq,.int .i64 s.ep,.int .i64 s.rd,.int .i64 s.ls] t)).alloc (.cells #[.bool S.lv,.int .i64 S.lo,.int .i64 S.hi,.slice D.A S.cs.length D.c,.int .i64 S.hd,.int .i64 S.sz,.slice D.A2 S.l.length D.c2,.slice D.A3 S.h.length D.c3] u)).alloc (.cells #[.int .i64 0,.int .i64 0,.int .i64 0,.int .i64 0] t)):=by
 have k:=(YB.start s h t u)
 exact ⟨k.below ((Below.refl _ _).alloc (nLR _) _),by simp [go_sem],by simp [go_sem],by simp [go_sem],by simp [go_sem],fun o=>by simp [go_sem],by simp,by omega⟩
theorem YC.all (h:YC w p q r s S D W):((W.cell? ⟨p,0,none⟩=some (.int .i64 s.sq)/\W.cell? ⟨p,1,none⟩=some (.int .i64 s.ep)/\W.cell? ⟨p,2,none⟩=some (.int .i64 s.rd)/\W.cell? ⟨p,3,none⟩=some (.int .i64 s.ls)/\p<W.heap.size)/\(W.cell? ⟨q,0,none⟩=some (.bool S.lv)/\W.cell? ⟨q,1,none⟩=some (.int .i64 S.lo)/\W.cell? ⟨q,2,none⟩=some (.int .i64 S.hi)/\W.cell? ⟨q,3,none⟩=some (.slice D.A S.cs.length D.c)/\W.cell? ⟨q,4,none⟩=some (.int .i64 S.hd)/\W.cell? ⟨q,5,none⟩=some (.int .i64 S.sz)/\W.cell? ⟨q,6,none⟩=some (.slice D.A2 S.l.length D.c2)/\W.cell? ⟨q,7,none⟩=some (.slice D.A3 S.h.length D.c3)/\q<W.heap.size))/\W.cell? ⟨r,0,none⟩=some (.int .i64 0)/\W.cell? ⟨r,1,none⟩=some (.int .i64 0)/\W.cell? ⟨r,2,none⟩=some (.int .i64 0)/\W.cell? ⟨r,3,none⟩=some (.int .i64 0)/\r<W.heap.size/\W.frozen? ⟨r,0,none⟩=false/\W.frozen? ⟨r,1,none⟩=false/\W.frozen? ⟨r,2,none⟩=false/\W.frozen? ⟨r,3,none⟩=false:=⟨h.yb.all,h.r0,h.r1,h.r2,h.r3,h.lt,h.fr 0,h.fr 1,h.fr 2,h.fr 3⟩
theorem YC.out (h:YC w p q r s S D W) (a b c d:Value):Below w.heap.size w ((((W.setCell ⟨r,0,none⟩ a).setCell ⟨r,1,none⟩ b).setCell ⟨r,2,none⟩ c).setCell ⟨r,3,none⟩ d):=below4 h.yb.sa.bel h.old a b c d
end
theorem yend_any (s:St) (S:Sh) (D:Sx) (ep lim:Int) (w:World) (hs:SR w w.heap.size S D) :
  Calls Tryz.prog 94 #[s.v,sv S D,.int .i64 ep,.int .i64 lim] w (StE w (enT s S ep lim) (enE s S ep lim)):=by
 have H0:=Lh (YC.start s hs 63 72)
 have HV:=Lh (fun p q r W (k:YC w p q r s S D W)=>yenderr_any s S D ep lim W k.yb.sa.sr)
 have HC:=Lh (fun p q r W (k:YC w p q r s S D W)=>scounts_any S D ep lim W k.yb.sa.sr)
 obtain ⟨p,hp⟩:∃ p,p=w.heap.size:=⟨_,rfl⟩
 obtain ⟨q,hq⟩:∃ q,q=w.heap.size+1:=⟨_,rfl⟩
 obtain ⟨r,hr⟩:∃ r,r=w.heap.size+1+1:=⟨_,rfl⟩
 obtain ⟨R,hR⟩:∃ R,R=enE s S ep lim:=⟨_,rfl⟩
 obtain ⟨T,hT⟩:∃ T,T=enT s S ep lim:=⟨_,rfl⟩
 rw [<-hR,<-hT]
 have HRR:=Lh (And.intro hR hT)
 have HPP:=Lh (And.intro hp (And.intro hq hr))
 have HNE:=Lh (show ¬p=q/\¬q=p/\¬p=r/\¬r=p/\¬q=r/\¬r=q by omega)
 clear hs hR hT hp hq hr
 go_enter Tryz.func94,Tryz.ntmps94
 obtain ⟨⟨⟨x0,x1,x2,x3,xl⟩,y0,y1,y2,y3,y4,y5,y6,y7,yl⟩,z0,z1,z2,z3,zl,f0,f1,f2,f3⟩:=H0.out.all
 go_wp2_with fail
 clear x0 x1 x2 x3 xl y0 y1 y2 y3 y4 y5 y6 y7 yl z0 z1 z2 z3 zl f0 f1 f2 f3
 rw [<-HPP.out.2.2,<-HPP.out.2.1,<-HPP.out.1] at H0
 generalize ((w.alloc (.cells #[.int .i64 s.sq,.int .i64 s.ep,.int .i64 s.rd,.int .i64 s.ls] 63)).alloc (.cells #[.bool S.lv,.int .i64 S.lo,.int .i64 S.hi,.slice D.A S.cs.length D.c,.int .i64 S.hd,.int .i64 S.sz,.slice D.A2 S.l.length D.c2,.slice D.A3 S.h.length D.c3] 72)).alloc (.cells #[.int .i64 0,.int .i64 0,.int .i64 0,.int .i64 0] 63)=w2 at*
 rw [<-HPP.out.2.2,<-HPP.out.2.1,<-HPP.out.1]
 refine (HV.out _ _ _ _ H0.out).mono ?_
 rintro e w3 ⟨rfl,hb⟩
 have H1:=Lh (H0.out.below hb)
 clear hb H0 HV
 obtain ⟨⟨⟨x0,x1,x2,x3,xl⟩,y0,y1,y2,y3,y4,y5,y6,y7,yl⟩,z0,z1,z2,z3,zl,f0,f1,f2,f3⟩:=H1.out.all
 by_cases h0:enE s S ep lim=0
 ·have HT:=Lh (show T=⟨s.sq+1,ep,ctR S ep lim,ctL S ep lim⟩ from by rw [HRR.out.2];unfold enT;rw [if_pos h0])
  have HX:=Lh (show R=0 from by rw [HRR.out.1];exact h0)
  have HNB:=Lh (show nbP s.sq from by
   apply Classical.byContradiction
   intro h
   rw [enE_1 h] at h0
   exact absurd h0 (by decide))
  have hw:IntKind.i64.wrap (s.sq+1)=s.sq+1:=IntWalk.i64_in _ (by have:=HNB.out.1;have:=HNB.out.2;omega)
  have hw2:wrap64 (s.sq+1)=s.sq+1:=IntWalk.wrap64_in _ (by have:=HNB.out.1;have:=HNB.out.2;omega)
  rw [h0]
  clear h0
  generalize ctR S ep lim=cr at*
  generalize ctL S ep lim=cl at*
  go_wp2_with fail
  clear x0 x1 x2 x3 xl y0 y1 y2 y3 y4 y5 y6 y7 yl z0 z1 z2 z3 zl f0 f1 f2 f3
  refine (HC.out _ _ _ _ H1.out).mono ?_
  rintro e w4 ⟨rfl,hb⟩
  have H2:=Lh (H1.out.below hb)
  clear hb H1 HC
  obtain ⟨⟨⟨x0,x1,x2,x3,xl⟩,y0,y1,y2,y3,y4,y5,y6,y7,yl⟩,z0,z1,z2,z3,zl,f0,f1,f2,f3⟩:=H2.out.all
  obtain ⟨n1,n2,n3,n4,n5,n6⟩:=HNE.out
  go_wp2
  exact bodyPost_ret (v:=.tuple #[.agg #[.int .i64 (s.sq+1),.int .i64 ep,.int .i64 cr,.int .i64 cl],.int .i64 0]) (by simp only [results,Tryz.results94];go_simp <;> rfl) rfl ⟨by rw [HT.out,HX.out],H2.out.out _ _ _ _⟩
 ·have HT:=Lh (show T=zSt from by rw [HRR.out.2];exact en_no rfl h0)
  have h0' : (enE s S ep lim != 0)=true:=bne_iff_ne.2 h0
  clear h0
  have HX:=HRR
  generalize enE s S ep lim=x at*
  obtain ⟨n1,n2,n3,n4,n5,n6⟩:=HNE.out
  go_wp2
  exact bodyPost_ret (v:=.tuple #[zSt.v,.int .i64 x]) (by simp only [results,Tryz.results94];go_simp <;> rfl) rfl ⟨by rw [HT.out,HX.out.1],H1.out.out _ _ _ _⟩
def YT (W:World) (r:Nat) (T:St):Prop:=(W.cell? ⟨r,0,none⟩=some (.int .i64 T.sq)/\W.cell? ⟨r,1,none⟩=some (.int .i64 T.ep)/\W.cell? ⟨r,2,none⟩=some (.int .i64 T.rd)/\W.cell? ⟨r,3,none⟩=some (.int .i64 T.ls))/\r<W.heap.size
theorem YT.up {W W' : World} {r:Nat} {T:St} (h:YT W r T) (hb:Below W.heap.size W W'):YT W' r T:=
 ⟨⟨(hb.cell (p:=⟨r,0,none⟩) h.2).trans h.1.1,(hb.cell (p:=⟨r,1,none⟩) h.2).trans h.1.2.1,(hb.cell (p:=⟨r,2,none⟩) h.2).trans h.1.2.2.1,(hb.cell (p:=⟨r,3,none⟩) h.2).trans h.1.2.2.2⟩,Nat.lt_of_lt_of_le h.2 hb.size⟩
theorem YT.start (w:World) (T:St) (t:TypeId):YT (w.alloc (.cells #[.int .i64 T.sq,.int .i64 T.ep,.int .i64 T.rd,.int .i64 T.ls] t)) w.heap.size T:=
 ⟨⟨by simp [go_sem],by simp [go_sem],by simp [go_sem],by simp [go_sem]⟩,by simp⟩
abbrev NkK (p q b:Nat) (S:Sh) (D:Sx) (H:Hn) (lim:Int) (W:World):Prop:=K8 p S D W/\W.cell? ⟨q,0,none⟩=some (.int .i64 H.id)/\W.cell? ⟨q,1,none⟩=some (.int .i64 H.gn)/\W.cell? ⟨q,2,none⟩=some (.int .i64 H.rt)/\W.cell? ⟨q,3,none⟩=some (.int .i64 H.ht)/\W.cell? ⟨b,0,none⟩=some (.int .i64 lim)
structure TqAt (w:World) (p b1 b2 r:Nat) (S:Sh) (D:Sx) (ep lim:Int) (W:World):Prop where
 sa:SAt w p S D W
 cap:CapAt b1 b2 ep lim W
 rs:SB8 W r zS zX
 ne:p<b1/\b1<b2/\b2<r
abbrev TqK (p b1 b2:Nat) (S:Sh) (D:Sx) (ep lim:Int) (W:World):Prop:=K8 p S D W/\W.cell? ⟨b1,0,none⟩=some (.int .i64 ep)/\W.cell? ⟨b2,0,none⟩=some (.int .i64 lim)
section
variable {w W W' : World} {p b1 b2 r:Nat} {S:Sh} {D:Sx} {ep lim:Int}
end
structure TkAt (w:World) (p r B:Nat) (S:Sh) (D:Sx) (A0:Option Addr) (c0:Nat) (L:List Msg) (lv:Value) (K:List Le) (W:World):Prop where
 sa:SAt w p S D W
 rs:SB8 W r zS zX
 l0:Ls W B (.slice A0 L.length c0) L
 o0:OffB p L.length A0
 own:W.ownsRow B 152 8 lv K.length (ecs K)
 dj:∀ q,lv.ownBlock=some q->SOff S D q
 dr:D.nw (r+1)
 ne:p<r/\r<B/\B<=W.heap.size
section
variable {w W W' : World} {p r B c0:Nat} {S:Sh} {D:Sx} {A0:Option Addr} {L:List Msg} {K K' : List Le} {lv:Value}
end
end Go.Proofs.YtkecnihgjepfeaaGreat
