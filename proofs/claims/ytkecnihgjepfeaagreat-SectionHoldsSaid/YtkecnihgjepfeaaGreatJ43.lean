/- What is proved here: parts of the proof: Vp Vq Ul Asl Vr Asd. -/
import Derived.Test.YtkecnihgjepfeaaGreatJ38
namespace Go.Proofs.YtkecnihgjepfeaaGreat
open Go.RowKit
set_option linter.unusedVariables false
set_option linter.unusedSimpArgs false
set_option maxHeartbeats 8000000
set_option maxRecDepth 20000
structure N2 (w:World) (p r:Nat) (s:Sn) (W:World):Prop where
 pb:NB W p s
 rb:NB W r zSn
 ne:w.heap.size<=p/\p<r
 bel:Below w.heap.size w W
theorem N2.below {w W W' : World} {p r:Nat} {s:Sn} (h:N2 w p r s W) (hb:Below W.heap.size W W'):N2 w p r s W':=⟨h.pb.up hb,h.rb.up hb,h.ne,h.bel.trans (hb.mono h.bel.size)⟩
theorem N2.start (w:World) (ph ep ck sp:Int):N2 w w.heap.size (w.heap.size+1) ⟨ph,ep,ck,sp⟩ ((w.alloc (.cells #[.int .i64 ph,.int .i64 ep,.int .i64 ck,.int .i64 sp] 47)).alloc (.cells #[.int .i64 0,.int .i64 0,.int .i64 0,.int .i64 0] 47)):=by
 have h1:=NB.start (w.alloc (.cells #[.int .i64 ph,.int .i64 ep,.int .i64 ck,.int .i64 sp] 47)) zSn 47
 rw [show (w.alloc (.cells #[.int .i64 ph,.int .i64 ep,.int .i64 ck,.int .i64 sp] 47)).heap.size=w.heap.size+1 by simp] at h1
 have b2:Below (w.alloc (.cells #[.int .i64 ph,.int .i64 ep,.int .i64 ck,.int .i64 sp] 47)).heap.size (w.alloc (.cells #[.int .i64 ph,.int .i64 ep,.int .i64 ck,.int .i64 sp] 47)) ((w.alloc (.cells #[.int .i64 ph,.int .i64 ep,.int .i64 ck,.int .i64 sp] 47)).alloc (.cells #[.int .i64 0,.int .i64 0,.int .i64 0,.int .i64 0] 47)):=(Below.refl _ _).alloc (nLR _) _
 exact ⟨(NB.start w ⟨ph,ep,ck,sp⟩ 47).up b2,h1,by omega,((Below.refl _ _).alloc (nLR _) _).alloc (by simp) _⟩
theorem nnew_any (w:World):Calls Tryz.prog 26 #[] w (NR w zSn):=by
 have H0:=Lh (show NB (w.alloc (.cells #[.int .i64 0,.int .i64 0,.int .i64 0,.int .i64 0] 47)) w.heap.size zSn from NB.start w zSn 47)
 have HB:=Lh ((Below.refl w.heap.size w).alloc (nLR _) (.cells #[.int .i64 0,.int .i64 0,.int .i64 0,.int .i64 0] 47))
 obtain ⟨r,hr⟩:∃ r,r=w.heap.size:=⟨_,rfl⟩
 have HR:=Lh hr
 clear hr
 go_enter Tryz.func26,Tryz.ntmps26
 go_upto_region 1 with (fail)
 rw [<-HR.out] at H0 ⊢
 generalize w.alloc (.cells #[.int .i64 0,.int .i64 0,.int .i64 0,.int .i64 0] 47)=w1 at*
 have HF:=Lh (show NR w zSn (.returned (.agg #[.int .i64 0,.int .i64 0,.int .i64 0,.int .i64 0])) ((((w1.setCell ⟨r,0,none⟩ (.int .i64 0)).setCell ⟨r,1,none⟩ (.int .i64 0)).setCell ⟨r,2,none⟩ (.int .i64 0)).setCell ⟨r,3,none⟩ (.int .i64 0)) from ⟨rfl,set4n_below HB.out (by rw [HR.out];exact nLR _) zSn⟩)
 obtain ⟨r0,r1,r2,r3⟩:=H0.out.k
 simp only [zSn] at r0 r1 r2 r3
 have rl:=H0.out.lt
 obtain ⟨f0,f1,f2,f3⟩:=H0.out.free
 clear H0
 go_wp2
 exact bodyPost_ret (v:=.agg #[.int .i64 0,.int .i64 0,.int .i64 0,.int .i64 0]) (by simp only [results,Tryz.results26];go_simp <;> rfl) rfl HF.out
theorem nbegin_any (ph ep ck sp x:Int) (w:World):Calls Tryz.prog 114 #[.agg #[.int .i64 ph,.int .i64 ep,.int .i64 ck,.int .i64 sp],.int .i64 x] w (NR w (bgN ⟨ph,ep,ck,sp⟩ x)):=by
 obtain ⟨p,hp⟩:∃ p,p=w.heap.size:=⟨_,rfl⟩
 obtain ⟨r,hr⟩:∃ r,r=w.heap.size+1:=⟨_,rfl⟩
 have H0:=Lh (show N2 w p r ⟨ph,ep,ck,sp⟩ _ from by rw [hr,hp];exact N2.start w ph ep ck sp)
 have HPP:=Lh (And.intro hp hr)
 clear hp hr
 go_enter Tryz.func114,Tryz.ntmps114
 go_upto_region 1 with (fail)
 rw [<-HPP.out.2,<-HPP.out.1]
 generalize (w.alloc (.cells #[.int .i64 ph,.int .i64 ep,.int .i64 ck,.int .i64 sp] 47)).alloc (.cells #[.int .i64 0,.int .i64 0,.int .i64 0,.int .i64 0] 47)=w1 at*
 have HF:=Lh (show NR w (bgN ⟨ph,ep,ck,sp⟩ x) (.returned (.agg #[.int .i64 1,.int .i64 x,.int .i64 ck,.int .i64 sp])) ((((((w1.setCell ⟨p,1,none⟩ (.int .i64 x)).setCell ⟨p,0,none⟩ (.int .i64 1)).setCell ⟨r,0,none⟩ (.int .i64 1)).setCell ⟨r,1,none⟩ (.int .i64 x)).setCell ⟨r,2,none⟩ (.int .i64 ck)).setCell ⟨r,3,none⟩ (.int .i64 sp)) from ⟨rfl,set4n_below (Below.setCell (Below.setCell H0.out.bel (show w.heap.size<=p from H0.out.ne.1) _) (show w.heap.size<=p from H0.out.ne.1) _) (show w.heap.size<=r by have:=H0.out.ne;omega) (bgN ⟨ph,ep,ck,sp⟩ x)⟩)
 obtain ⟨p0,p1,p2,p3⟩:=H0.out.pb.k
 have pl:=H0.out.pb.lt
 obtain ⟨g0,g1,g2,g3⟩:=H0.out.pb.free
 obtain ⟨r0,r1,r2,r3⟩:=H0.out.rb.k
 have rl:=H0.out.rb.lt
 obtain ⟨f0,f1,f2,f3⟩:=H0.out.rb.free
 have hpr:¬p=r:=by have:=H0.out.ne;omega
 have hrp:¬r=p:=fun e=>hpr e.symm
 simp only [zSn] at r0 r1 r2 r3
 clear H0
 go_wp2
 exact bodyPost_ret (v:=.agg #[.int .i64 1,.int .i64 x,.int .i64 ck,.int .i64 sp]) (by simp only [results,Tryz.results114];go_simp <;> rfl) rfl HF.out
theorem nstamp_any (ph ep ck sp x n:Int) (w:World):Calls Tryz.prog 116 #[.agg #[.int .i64 ph,.int .i64 ep,.int .i64 ck,.int .i64 sp],.int .i64 x,.int .i64 n] w (NR w (stN ⟨ph,ep,ck,sp⟩ x n)):=by
 obtain ⟨p,hp⟩:∃ p,p=w.heap.size:=⟨_,rfl⟩
 obtain ⟨r,hr⟩:∃ r,r=w.heap.size+1:=⟨_,rfl⟩
 have H0:=Lh (show N2 w p r ⟨ph,ep,ck,sp⟩ _ from by rw [hr,hp];exact N2.start w ph ep ck sp)
 have HPP:=Lh (And.intro hp hr)
 clear hp hr
 go_enter Tryz.func116,Tryz.ntmps116
 go_upto_region 1 with (fail)
 rw [<-HPP.out.2,<-HPP.out.1]
 generalize (w.alloc (.cells #[.int .i64 ph,.int .i64 ep,.int .i64 ck,.int .i64 sp] 47)).alloc (.cells #[.int .i64 0,.int .i64 0,.int .i64 0,.int .i64 0] 47)=w1 at*
 have HF:=Lh (show NR w (stN ⟨ph,ep,ck,sp⟩ x n) (.returned (.agg #[.int .i64 2,.int .i64 ep,.int .i64 x,.int .i64 n])) (((((((w1.setCell ⟨p,2,none⟩ (.int .i64 x)).setCell ⟨p,3,none⟩ (.int .i64 n)).setCell ⟨p,0,none⟩ (.int .i64 2)).setCell ⟨r,0,none⟩ (.int .i64 2)).setCell ⟨r,1,none⟩ (.int .i64 ep)).setCell ⟨r,2,none⟩ (.int .i64 x)).setCell ⟨r,3,none⟩ (.int .i64 n)) from ⟨rfl,set4n_below (Below.setCell (Below.setCell (Below.setCell H0.out.bel (show w.heap.size<=p from H0.out.ne.1) _) (show w.heap.size<=p from H0.out.ne.1) _) (show w.heap.size<=p from H0.out.ne.1) _) (show w.heap.size<=r by have:=H0.out.ne;omega) (stN ⟨ph,ep,ck,sp⟩ x n)⟩)
 obtain ⟨p0,p1,p2,p3⟩:=H0.out.pb.k
 have pl:=H0.out.pb.lt
 obtain ⟨g0,g1,g2,g3⟩:=H0.out.pb.free
 obtain ⟨r0,r1,r2,r3⟩:=H0.out.rb.k
 have rl:=H0.out.rb.lt
 obtain ⟨f0,f1,f2,f3⟩:=H0.out.rb.free
 have hpr:¬p=r:=by have:=H0.out.ne;omega
 have hrp:¬r=p:=fun e=>hpr e.symm
 simp only [zSn] at r0 r1 r2 r3
 clear H0
 go_wp2
 exact bodyPost_ret (v:=.agg #[.int .i64 2,.int .i64 ep,.int .i64 x,.int .i64 n]) (by simp only [results,Tryz.results116];go_simp <;> rfl) rfl HF.out
theorem ncompare_any (ph ep ck sp x:Int) (w:World):Calls Tryz.prog 117 #[.agg #[.int .i64 ph,.int .i64 ep,.int .i64 ck,.int .i64 sp],.int .i64 x] w (NR w (cmN ⟨ph,ep,ck,sp⟩ x)):=by
 obtain ⟨p,hp⟩:∃ p,p=w.heap.size:=⟨_,rfl⟩
 obtain ⟨r,hr⟩:∃ r,r=w.heap.size+1:=⟨_,rfl⟩
 have H0:=Lh (show N2 w p r ⟨ph,ep,ck,sp⟩ _ from by rw [hr,hp];exact N2.start w ph ep ck sp)
 have HPP:=Lh (And.intro hp hr)
 clear hp hr
 obtain ⟨R,hR⟩:∃ R,R=cmN ⟨ph,ep,ck,sp⟩ x:=⟨_,rfl⟩
 rw [<-hR]
 have HRR:=Lh hR
 clear hR
 go_enter Tryz.func117,Tryz.ntmps117
 go_upto_region 1 with (fail)
 rw [<-HPP.out.2,<-HPP.out.1]
 generalize (w.alloc (.cells #[.int .i64 ph,.int .i64 ep,.int .i64 ck,.int .i64 sp] 47)).alloc (.cells #[.int .i64 0,.int .i64 0,.int .i64 0,.int .i64 0] 47)=w1 at*
 have hR:=HRR.out
 clear HRR
 obtain ⟨p0,p1,p2,p3⟩:=H0.out.pb.k
 have pl:=H0.out.pb.lt
 obtain ⟨g0,g1,g2,g3⟩:=H0.out.pb.free
 obtain ⟨r0,r1,r2,r3⟩:=H0.out.rb.k
 have rl:=H0.out.rb.lt
 obtain ⟨f0,f1,f2,f3⟩:=H0.out.rb.free
 have hpr:¬p=r:=by have:=H0.out.ne;omega
 have hrp:¬r=p:=fun e=>hpr e.symm
 simp only [zSn] at r0 r1 r2 r3
 simp only at p0 p1 p2 p3
 by_cases hx:x=ep
 ·subst hx
  have hne:(x != x)=false:=by simp
  have hpost:R=⟨3,x,ck,sp⟩:=hR.trans (if_pos rfl)
  have HF:=Lh (show NR w R (.returned (.agg #[.int .i64 3,.int .i64 x,.int .i64 ck,.int .i64 sp])) (((((w1.setCell ⟨p,0,none⟩ (.int .i64 3)).setCell ⟨r,0,none⟩ (.int .i64 3)).setCell ⟨r,1,none⟩ (.int .i64 x)).setCell ⟨r,2,none⟩ (.int .i64 ck)).setCell ⟨r,3,none⟩ (.int .i64 sp)) from by rw [hpost];exact ⟨rfl,set4n_below (Below.setCell H0.out.bel (show w.heap.size<=p from H0.out.ne.1) _) (show w.heap.size<=r by have:=H0.out.ne;omega) ⟨3,x,ck,sp⟩⟩)
  clear hpost hR H0
  go_wp2
  exact bodyPost_ret (v:=.agg #[.int .i64 3,.int .i64 x,.int .i64 ck,.int .i64 sp]) (by simp only [results,Tryz.results117];go_simp <;> rfl) rfl HF.out
 ·skip
  have hne:(x != ep)=true:=bne_iff_ne.2 hx
  have hpost:R=bgN ⟨ph,ep,ck,sp⟩ x:=hR.trans (if_neg hx)
  have HBG:=Lh (fun W=>nbegin_any ph ep ck sp x W)
  rw [<-hpost] at HBG
  clear hpost hx hR
  go_wp2_with fail
  clear p0 p1 p2 p3 pl g0 g1 g2 g3 r0 r1 r2 r3 rl f0 f1 f2 f3
  refine (HBG.out _).mono ?_
  rintro e w2 ⟨rfl,hb⟩
  have H1:=Lh (H0.out.below hb)
  clear hb H0 HBG
  have HF:=Lh (show NR w R (.returned (.agg #[.int .i64 R.ph,.int .i64 R.ep,.int .i64 R.ck,.int .i64 R.sp])) ((((w2.setCell ⟨r,0,none⟩ (.int .i64 R.ph)).setCell ⟨r,1,none⟩ (.int .i64 R.ep)).setCell ⟨r,2,none⟩ (.int .i64 R.ck)).setCell ⟨r,3,none⟩ (.int .i64 R.sp)) from ⟨rfl,set4n_below H1.out.bel (show w.heap.size<=r by have:=H1.out.ne;omega) R⟩)
  obtain ⟨r0,r1,r2,r3⟩:=H1.out.rb.k
  have rl:=H1.out.rb.lt
  obtain ⟨f0,f1,f2,f3⟩:=H1.out.rb.free
  simp only [zSn] at r0 r1 r2 r3
  clear H1
  go_wp2
  exact bodyPost_ret (v:=.agg #[.int .i64 R.ph,.int .i64 R.ep,.int .i64 R.ck,.int .i64 R.sp]) (by simp only [results,Tryz.results117];go_simp <;> rfl) rfl HF.out
theorem aword1_any (a:Ar) (Y:Ax) (p:Nat) (w:World) (hq:QB w p a Y):Calls Tryz.prog 154 #[.pointer (some ⟨p,0,none⟩),.int .i64 1] w fun e w'=>e=.returned (.pointer (some ⟨p,8,none⟩))/\w=w':=by
 obtain ⟨y0,y1,y2,y3,y4,y5,y6,y7,y8,y9,y10⟩:=hq.k
 have yl:=hq.lt
 clear hq
 go_enter Tryz.func154,Tryz.ntmps154
 go_wp2
 go_ret
 exact ⟨rfl,rfl⟩
theorem aword2_any (a:Ar) (Y:Ax) (p:Nat) (w:World) (hq:QB w p a Y):Calls Tryz.prog 154 #[.pointer (some ⟨p,0,none⟩),.int .i64 2] w fun e w'=>e=.returned (.pointer (some ⟨p,9,none⟩))/\w=w':=by
 obtain ⟨y0,y1,y2,y3,y4,y5,y6,y7,y8,y9,y10⟩:=hq.k
 have yl:=hq.lt
 clear hq
 go_enter Tryz.func154,Tryz.ntmps154
 go_wp2
 go_ret
 exact ⟨rfl,rfl⟩
theorem aload1_any (a:Ar) (Y:Ax) (w:World):Calls Tryz.prog 134 #[av a Y,.int .i64 1] w fun e w'=>e=.returned (.tuple #[.int .i64 a.ep,.int .i64 0])/\Below w.heap.size w w':=by
 have HQ:=Lh (QB.start w a Y 36)
 have HB:=Lh ((Below.refl w.heap.size w).alloc (nLR _) (.cells #[.slice Y.A a.sl.length Y.c,.slice Y.A2 a.st.length Y.c2,.int .i64 a.ow,.int .i64 a.cap,.slice Y.A3 a.dl.length Y.c3,.int .i64 a.dir.vn,.slice Y.D.A a.dir.l.length Y.D.c,.slice Y.D.A2 a.dir.F.length Y.D.c2,.int .i64 a.ep,.int .i64 a.ck,.int .i64 a.ni] 36))
 go_enter Tryz.func134,Tryz.ntmps134
 go_upto_region 1 with (fail)
 obtain ⟨p,hp⟩:∃ p,p=w.heap.size:=⟨_,rfl⟩
 rw [<-hp] at HQ ⊢
 clear hp
 generalize w.alloc (.cells #[.slice Y.A a.sl.length Y.c,.slice Y.A2 a.st.length Y.c2,.int .i64 a.ow,.int .i64 a.cap,.slice Y.A3 a.dl.length Y.c3,.int .i64 a.dir.vn,.slice Y.D.A a.dir.l.length Y.D.c,.slice Y.D.A2 a.dir.F.length Y.D.c2,.int .i64 a.ep,.int .i64 a.ck,.int .i64 a.ni] 36)=w1 at*
 have HW:=Lh (aword1_any a Y p w1 HQ.out)
 go_wp2_with fail
 refine HW.out.mono ?_
 rintro e w2 ⟨rfl,rfl⟩
 obtain ⟨y0,y1,y2,y3,y4,y5,y6,y7,y8,y9,y10⟩:=HQ.out.k
 have yl:=HQ.out.lt
 clear HQ HW
 go_wp2
 exact bodyPost_ret (v:=.tuple #[.int .i64 a.ep,.int .i64 0]) (by simp only [results,Tryz.results134];go_simp <;> rfl) rfl ⟨rfl,HB.out⟩
theorem nload1_any (a:Ar) (Y:Ax) (w:World):Calls Tryz.prog 115 #[av a Y,.int .i64 1] w fun e w'=>e=.returned (.int .i64 a.ep)/\Below w.heap.size w w':=by
 have HQ:=Lh (QB.start w a Y 36)
 have HB:=Lh ((Below.refl w.heap.size w).alloc (nLR _) (.cells #[.slice Y.A a.sl.length Y.c,.slice Y.A2 a.st.length Y.c2,.int .i64 a.ow,.int .i64 a.cap,.slice Y.A3 a.dl.length Y.c3,.int .i64 a.dir.vn,.slice Y.D.A a.dir.l.length Y.D.c,.slice Y.D.A2 a.dir.F.length Y.D.c2,.int .i64 a.ep,.int .i64 a.ck,.int .i64 a.ni] 36))
 have HL:=Lh (fun W=>aload1_any a Y W)
 go_enter Tryz.func115,Tryz.ntmps115
 go_upto_region 1 with (fail)
 obtain ⟨p,hp⟩:∃ p,p=w.heap.size:=⟨_,rfl⟩
 rw [<-hp] at HQ ⊢
 clear hp
 generalize w.alloc (.cells #[.slice Y.A a.sl.length Y.c,.slice Y.A2 a.st.length Y.c2,.int .i64 a.ow,.int .i64 a.cap,.slice Y.A3 a.dl.length Y.c3,.int .i64 a.dir.vn,.slice Y.D.A a.dir.l.length Y.D.c,.slice Y.D.A2 a.dir.F.length Y.D.c2,.int .i64 a.ep,.int .i64 a.ck,.int .i64 a.ni] 36)=w1 at*
 obtain ⟨y0,y1,y2,y3,y4,y5,y6,y7,y8,y9,y10⟩:=HQ.out.k
 have yl:=HQ.out.lt
 go_wp2_with fail
 clear y0 y1 y2 y3 y4 y5 y6 y7 y8 y9 y10 yl
 refine (HL.out _).mono ?_
 rintro e w2 ⟨rfl,hb⟩
 have HF:=Lh (HB.out.trans (hb.mono HB.out.size))
 clear hb HB HL HQ
 go_wp2
 go_ret
 exact ⟨rfl,HF.out⟩
theorem aload2_any (a:Ar) (Y:Ax) (w:World):Calls Tryz.prog 134 #[av a Y,.int .i64 2] w fun e w'=>e=.returned (.tuple #[.int .i64 a.ck,.int .i64 0])/\Below w.heap.size w w':=by
 have HQ:=Lh (QB.start w a Y 36)
 have HB:=Lh ((Below.refl w.heap.size w).alloc (nLR _) (.cells #[.slice Y.A a.sl.length Y.c,.slice Y.A2 a.st.length Y.c2,.int .i64 a.ow,.int .i64 a.cap,.slice Y.A3 a.dl.length Y.c3,.int .i64 a.dir.vn,.slice Y.D.A a.dir.l.length Y.D.c,.slice Y.D.A2 a.dir.F.length Y.D.c2,.int .i64 a.ep,.int .i64 a.ck,.int .i64 a.ni] 36))
 go_enter Tryz.func134,Tryz.ntmps134
 go_upto_region 1 with (fail)
 obtain ⟨p,hp⟩:∃ p,p=w.heap.size:=⟨_,rfl⟩
 rw [<-hp] at HQ ⊢
 clear hp
 generalize w.alloc (.cells #[.slice Y.A a.sl.length Y.c,.slice Y.A2 a.st.length Y.c2,.int .i64 a.ow,.int .i64 a.cap,.slice Y.A3 a.dl.length Y.c3,.int .i64 a.dir.vn,.slice Y.D.A a.dir.l.length Y.D.c,.slice Y.D.A2 a.dir.F.length Y.D.c2,.int .i64 a.ep,.int .i64 a.ck,.int .i64 a.ni] 36)=w1 at*
 have HW:=Lh (aword2_any a Y p w1 HQ.out)
 go_wp2_with fail
 refine HW.out.mono ?_
 rintro e w2 ⟨rfl,rfl⟩
 obtain ⟨y0,y1,y2,y3,y4,y5,y6,y7,y8,y9,y10⟩:=HQ.out.k
 have yl:=HQ.out.lt
 clear HQ HW
 go_wp2
 exact bodyPost_ret (v:=.tuple #[.int .i64 a.ck,.int .i64 0]) (by simp only [results,Tryz.results134];go_simp <;> rfl) rfl ⟨rfl,HB.out⟩
theorem nload2_any (a:Ar) (Y:Ax) (w:World):Calls Tryz.prog 115 #[av a Y,.int .i64 2] w fun e w'=>e=.returned (.int .i64 a.ck)/\Below w.heap.size w w':=by
 have HQ:=Lh (QB.start w a Y 36)
 have HB:=Lh ((Below.refl w.heap.size w).alloc (nLR _) (.cells #[.slice Y.A a.sl.length Y.c,.slice Y.A2 a.st.length Y.c2,.int .i64 a.ow,.int .i64 a.cap,.slice Y.A3 a.dl.length Y.c3,.int .i64 a.dir.vn,.slice Y.D.A a.dir.l.length Y.D.c,.slice Y.D.A2 a.dir.F.length Y.D.c2,.int .i64 a.ep,.int .i64 a.ck,.int .i64 a.ni] 36))
 have HL:=Lh (fun W=>aload2_any a Y W)
 go_enter Tryz.func115,Tryz.ntmps115
 go_upto_region 1 with (fail)
 obtain ⟨p,hp⟩:∃ p,p=w.heap.size:=⟨_,rfl⟩
 rw [<-hp] at HQ ⊢
 clear hp
 generalize w.alloc (.cells #[.slice Y.A a.sl.length Y.c,.slice Y.A2 a.st.length Y.c2,.int .i64 a.ow,.int .i64 a.cap,.slice Y.A3 a.dl.length Y.c3,.int .i64 a.dir.vn,.slice Y.D.A a.dir.l.length Y.D.c,.slice Y.D.A2 a.dir.F.length Y.D.c2,.int .i64 a.ep,.int .i64 a.ck,.int .i64 a.ni] 36)=w1 at*
 obtain ⟨y0,y1,y2,y3,y4,y5,y6,y7,y8,y9,y10⟩:=HQ.out.k
 have yl:=HQ.out.lt
 go_wp2_with fail
 clear y0 y1 y2 y3 y4 y5 y6 y7 y8 y9 y10 yl
 refine (HL.out _).mono ?_
 rintro e w2 ⟨rfl,hb⟩
 have HF:=Lh (HB.out.trans (hb.mono HB.out.size))
 clear hb HB HL HQ
 go_wp2
 go_ret
 exact ⟨rfl,HF.out⟩
structure N3 (w:World) (q p r:Nat) (a:Ar) (Y:Ax) (s:Sn) (W:World):Prop where
 qb:QB W q a Y
 pb:NB W p s
 rb:NB W r zSn
 ne:w.heap.size<=q/\q<p/\p<r
 bel:Below w.heap.size w W
theorem N3.below {w W W' : World} {q p r:Nat} {a:Ar} {Y:Ax} {s:Sn} (h:N3 w q p r a Y s W) (hb:Below W.heap.size W W'):N3 w q p r a Y s W':=⟨h.qb.up hb,h.pb.up hb,h.rb.up hb,h.ne,h.bel.trans (hb.mono h.bel.size)⟩
theorem N3.start (w:World) (a:Ar) (Y:Ax) (ph ep ck sp:Int):N3 w w.heap.size (w.heap.size+1) (w.heap.size+2) a Y ⟨ph,ep,ck,sp⟩ (((w.alloc (.cells #[.slice Y.A a.sl.length Y.c,.slice Y.A2 a.st.length Y.c2,.int .i64 a.ow,.int .i64 a.cap,.slice Y.A3 a.dl.length Y.c3,.int .i64 a.dir.vn,.slice Y.D.A a.dir.l.length Y.D.c,.slice Y.D.A2 a.dir.F.length Y.D.c2,.int .i64 a.ep,.int .i64 a.ck,.int .i64 a.ni] 36)).alloc (.cells #[.int .i64 ph,.int .i64 ep,.int .i64 ck,.int .i64 sp] 47)).alloc (.cells #[.int .i64 0,.int .i64 0,.int .i64 0,.int .i64 0] 47)):=by
 have b1:=(Below.refl (w.alloc (.cells #[.slice Y.A a.sl.length Y.c,.slice Y.A2 a.st.length Y.c2,.int .i64 a.ow,.int .i64 a.cap,.slice Y.A3 a.dl.length Y.c3,.int .i64 a.dir.vn,.slice Y.D.A a.dir.l.length Y.D.c,.slice Y.D.A2 a.dir.F.length Y.D.c2,.int .i64 a.ep,.int .i64 a.ck,.int .i64 a.ni] 36)).heap.size (w.alloc (.cells #[.slice Y.A a.sl.length Y.c,.slice Y.A2 a.st.length Y.c2,.int .i64 a.ow,.int .i64 a.cap,.slice Y.A3 a.dl.length Y.c3,.int .i64 a.dir.vn,.slice Y.D.A a.dir.l.length Y.D.c,.slice Y.D.A2 a.dir.F.length Y.D.c2,.int .i64 a.ep,.int .i64 a.ck,.int .i64 a.ni] 36))).alloc (nLR _) (.cells #[.int .i64 ph,.int .i64 ep,.int .i64 ck,.int .i64 sp] 47)
 have b2:=(Below.refl ((w.alloc (.cells #[.slice Y.A a.sl.length Y.c,.slice Y.A2 a.st.length Y.c2,.int .i64 a.ow,.int .i64 a.cap,.slice Y.A3 a.dl.length Y.c3,.int .i64 a.dir.vn,.slice Y.D.A a.dir.l.length Y.D.c,.slice Y.D.A2 a.dir.F.length Y.D.c2,.int .i64 a.ep,.int .i64 a.ck,.int .i64 a.ni] 36)).alloc (.cells #[.int .i64 ph,.int .i64 ep,.int .i64 ck,.int .i64 sp] 47)).heap.size ((w.alloc (.cells #[.slice Y.A a.sl.length Y.c,.slice Y.A2 a.st.length Y.c2,.int .i64 a.ow,.int .i64 a.cap,.slice Y.A3 a.dl.length Y.c3,.int .i64 a.dir.vn,.slice Y.D.A a.dir.l.length Y.D.c,.slice Y.D.A2 a.dir.F.length Y.D.c2,.int .i64 a.ep,.int .i64 a.ck,.int .i64 a.ni] 36)).alloc (.cells #[.int .i64 ph,.int .i64 ep,.int .i64 ck,.int .i64 sp] 47))).alloc (nLR _) (.cells #[.int .i64 0,.int .i64 0,.int .i64 0,.int .i64 0] 47)
 have h1:=(NB.start (w.alloc (.cells #[.slice Y.A a.sl.length Y.c,.slice Y.A2 a.st.length Y.c2,.int .i64 a.ow,.int .i64 a.cap,.slice Y.A3 a.dl.length Y.c3,.int .i64 a.dir.vn,.slice Y.D.A a.dir.l.length Y.D.c,.slice Y.D.A2 a.dir.F.length Y.D.c2,.int .i64 a.ep,.int .i64 a.ck,.int .i64 a.ni] 36)) ⟨ph,ep,ck,sp⟩ 47).up b2
 have h2:=NB.start ((w.alloc (.cells #[.slice Y.A a.sl.length Y.c,.slice Y.A2 a.st.length Y.c2,.int .i64 a.ow,.int .i64 a.cap,.slice Y.A3 a.dl.length Y.c3,.int .i64 a.dir.vn,.slice Y.D.A a.dir.l.length Y.D.c,.slice Y.D.A2 a.dir.F.length Y.D.c2,.int .i64 a.ep,.int .i64 a.ck,.int .i64 a.ni] 36)).alloc (.cells #[.int .i64 ph,.int .i64 ep,.int .i64 ck,.int .i64 sp] 47)) zSn 47
 rw [show (w.alloc (.cells #[.slice Y.A a.sl.length Y.c,.slice Y.A2 a.st.length Y.c2,.int .i64 a.ow,.int .i64 a.cap,.slice Y.A3 a.dl.length Y.c3,.int .i64 a.dir.vn,.slice Y.D.A a.dir.l.length Y.D.c,.slice Y.D.A2 a.dir.F.length Y.D.c2,.int .i64 a.ep,.int .i64 a.ck,.int .i64 a.ni] 36)).heap.size=w.heap.size+1 by simp] at h1
 rw [show ((w.alloc (.cells #[.slice Y.A a.sl.length Y.c,.slice Y.A2 a.st.length Y.c2,.int .i64 a.ow,.int .i64 a.cap,.slice Y.A3 a.dl.length Y.c3,.int .i64 a.dir.vn,.slice Y.D.A a.dir.l.length Y.D.c,.slice Y.D.A2 a.dir.F.length Y.D.c2,.int .i64 a.ep,.int .i64 a.ck,.int .i64 a.ni] 36)).alloc (.cells #[.int .i64 ph,.int .i64 ep,.int .i64 ck,.int .i64 sp] 47)).heap.size=w.heap.size+2 by simp] at h2
 exact ⟨((QB.start w a Y 36).up b1).up b2,h1,h2,by omega,(((Below.refl _ _).alloc (nLR _) _).alloc (by simp) _).alloc (by simp;omega) _⟩
abbrev S3n (p q:Nat) (a:Ar) (Y:Ax) (s:Sn) (W:World):Prop:=K4n W p s/\K11 q a Y W
theorem s3_set {p q:Nat} {a:Ar} {Y:Ax} {s:Sn} {W:World} {x:Addr} (h:S3n p q a Y s W) (hp:x.block≠p) (hq:x.block≠q) (v:Value):S3n p q a Y s (W.setCell x v):=by
 have g:∀ (b o:Nat),x.block≠b->(W.setCell x v).cell? ⟨b,o,none⟩=W.cell? ⟨b,o,none⟩:=fun b o hb=>World.cell?_setCell_other W x ⟨b,o,none⟩ v (fun e=>hb (by rw [e]))
 unfold S3n K4n K11 at h ⊢
 simp only [g p _ hp,g q _ hq]
 exact h
theorem nstep_any (a:Ar) (Y:Ax) (ph ep ck sp n:Int) (w:World):Calls Tryz.prog 89 #[av a Y,.agg #[.int .i64 ph,.int .i64 ep,.int .i64 ck,.int .i64 sp],.int .i64 n] w (NE w (nsN a.ep a.ck ⟨ph,ep,ck,sp⟩ n) (nsE ⟨ph,ep,ck,sp⟩)):=by
 obtain ⟨q,hq⟩:∃ p,p=w.heap.size:=⟨_,rfl⟩
 obtain ⟨p,hp⟩:∃ p,p=w.heap.size+1:=⟨_,rfl⟩
 obtain ⟨r,hr⟩:∃ r,r=w.heap.size+1+1:=⟨_,rfl⟩
 have H0:=Lh (show N3 w q p r a Y ⟨ph,ep,ck,sp⟩ _ from by rw [hr,hp,hq];exact N3.start w a Y ph ep ck sp)
 have HPP:=Lh (And.intro hq (And.intro hp hr))
 clear hq hp hr
 obtain ⟨R,hR⟩:∃ R,R=nsN a.ep a.ck ⟨ph,ep,ck,sp⟩ n:=⟨_,rfl⟩
 obtain ⟨E,hE⟩:∃ E,E=nsE ⟨ph,ep,ck,sp⟩:=⟨_,rfl⟩
 rw [<-hR,<-hE]
 have HRR:=Lh (And.intro hR hE)
 clear hR hE
 go_enter Tryz.func89,Tryz.ntmps89
 go_upto_region 1 with (fail)
 rw [<-HPP.out.2.2,<-HPP.out.2.1,<-HPP.out.1]
 generalize ((w.alloc (.cells #[.slice Y.A a.sl.length Y.c,.slice Y.A2 a.st.length Y.c2,.int .i64 a.ow,.int .i64 a.cap,.slice Y.A3 a.dl.length Y.c3,.int .i64 a.dir.vn,.slice Y.D.A a.dir.l.length Y.D.c,.slice Y.D.A2 a.dir.F.length Y.D.c2,.int .i64 a.ep,.int .i64 a.ck,.int .i64 a.ni] 36)).alloc (.cells #[.int .i64 ph,.int .i64 ep,.int .i64 ck,.int .i64 sp] 47)).alloc (.cells #[.int .i64 0,.int .i64 0,.int .i64 0,.int .i64 0] 47)=w1 at*
 obtain ⟨hR,hE⟩:=HRR.out
 clear HRR
 obtain ⟨p0,p1,p2,p3⟩:=H0.out.pb.k
 have pl:=H0.out.pb.lt
 simp only at p0 p1 p2 p3
 by_cases h0:ph=0
 ·subst h0
  have hRR:R=bgN ⟨0,ep,ck,sp⟩ a.ep:=hR
  have HEE:=Lh (show E=0 from hE)
  clear hE hR
  have hR:=hRR
  clear hRR
  have HBL:=Lh (fun W (h:Below w1.heap.size w1 W)=>(nload1_any a Y W).mono fun e w' h1=>show e=.returned (.int .i64 a.ep)/\Below w1.heap.size w1 w' from ⟨h1.1,h.trans (h1.2.mono h.size)⟩)
  have HBC:=Lh (show ∀ W,Below w1.heap.size w1 W->Calls Tryz.prog 114 #[.agg #[.int .i64 0,.int .i64 ep,.int .i64 ck,.int .i64 sp],.int .i64 a.ep] W (fun e w'=>e=.returned R.v/\Below w1.heap.size w1 w') from fun W h=>(nbegin_any 0 ep ck sp a.ep W).mono fun e w' h1=>⟨by rw [hR];exact h1.1,h.trans (h1.2.mono h.size)⟩)
  clear hR
  have HSK:=Lh (show ∀ W,Below w1.heap.size w1 W->S3n p q a Y ⟨0,ep,ck,sp⟩ W from fun W h=>⟨(H0.out.pb.up h).k,(H0.out.qb.up h).k⟩)
  have HB0:=Lh (Below.refl w1.heap.size w1)
  have HNE:=Lh (show r≠p/\r≠q by have:=H0.out.ne;omega)
  go_wp2_with fail
  clear p0 p1 p2 p3 pl
  go_region_held3 (fun W=>S3n p q a Y ⟨0,ep,ck,sp⟩ W)
   (((repeat' (with_reducible refine s3_set ?_ HNE.out.1 HNE.out.2 _));refine HSK.out _ ?_;repeat' (first | with_reducible exact HB0.out | with_reducible exact HB4.out | with_reducible exact HB5.out | with_reducible refine bdr ?_ | exact nLR _ | (simp;done) | (simp;omega))))
   (first | (go_at_call 115;(with_reducible refine (HBL.out _ ?hbel).mono ?_);(case hbel=>(repeat' (first | with_reducible exact HB0.out | with_reducible refine bdr ?_)));rintro e w4 ⟨rfl,hb⟩;have HB4:=Lh hb;clear hb) | (go_at_call 114;(with_reducible refine (HBC.out _ ?hbel).mono ?_);(case hbel=>(repeat' (first | with_reducible exact HB4.out | with_reducible refine bdr ?_)));rintro e w5 ⟨rfl,hb⟩;have HB5:=Lh hb;have H1:=Lh (H0.out.below hb);obtain ⟨r0,r1,r2,r3⟩:=H1.out.rb.k;have rl:=H1.out.rb.lt;obtain ⟨f0,f1,f2,f3⟩:=H1.out.rb.free;simp only [zSn] at r0 r1 r2 r3;clear hb))
  all_goals
   have HF:=Lh (show NE w R E (.returned (.tuple #[R.v,.int .i64 0])) ((((w5.setCell ⟨r,0,none⟩ (.int .i64 R.ph)).setCell ⟨r,1,none⟩ (.int .i64 R.ep)).setCell ⟨r,2,none⟩ (.int .i64 R.ck)).setCell ⟨r,3,none⟩ (.int .i64 R.sp)) from by rw [HEE.out];exact ⟨rfl,set4n_below H1.out.bel (show w.heap.size<=r by have:=H1.out.ne;omega) R⟩)
   clear HEE H1 H0 HB4 HB5 HB0 HSK HBL HBC
   go_wp2
   exact bodyPost_ret (v:=.tuple #[.agg #[.int .i64 R.ph,.int .i64 R.ep,.int .i64 R.ck,.int .i64 R.sp],.int .i64 0]) (by simp only [results,Tryz.results89];go_simp <;> rfl) rfl HF.out
 by_cases h1:ph=1
 ·subst h1
  clear h0
  have hRR:R=stN ⟨1,ep,ck,sp⟩ a.ck n:=hR
  have HEE:=Lh (show E=0 from hE)
  clear hE hR
  have hR:=hRR
  clear hRR
  have HBL:=Lh (fun W (h:Below w1.heap.size w1 W)=>(nload2_any a Y W).mono fun e w' h1=>show e=.returned (.int .i64 a.ck)/\Below w1.heap.size w1 w' from ⟨h1.1,h.trans (h1.2.mono h.size)⟩)
  have HBC:=Lh (show ∀ W,Below w1.heap.size w1 W->Calls Tryz.prog 116 #[.agg #[.int .i64 1,.int .i64 ep,.int .i64 ck,.int .i64 sp],.int .i64 a.ck,.int .i64 n] W (fun e w'=>e=.returned R.v/\Below w1.heap.size w1 w') from fun W h=>(nstamp_any 1 ep ck sp a.ck n W).mono fun e w' h1=>⟨by rw [hR];exact h1.1,h.trans (h1.2.mono h.size)⟩)
  clear hR
  have HSK:=Lh (show ∀ W,Below w1.heap.size w1 W->S3n p q a Y ⟨1,ep,ck,sp⟩ W from fun W h=>⟨(H0.out.pb.up h).k,(H0.out.qb.up h).k⟩)
  have HB0:=Lh (Below.refl w1.heap.size w1)
  have HNE:=Lh (show r≠p/\r≠q by have:=H0.out.ne;omega)
  go_wp2_with fail
  clear p0 p1 p2 p3 pl
  go_region_held3 (fun W=>S3n p q a Y ⟨1,ep,ck,sp⟩ W)
   (((repeat' (with_reducible refine s3_set ?_ HNE.out.1 HNE.out.2 _));refine HSK.out _ ?_;repeat' (first | with_reducible exact HB0.out | with_reducible exact HB4.out | with_reducible exact HB5.out | with_reducible refine bdr ?_ | exact nLR _ | (simp;done) | (simp;omega))))
   (first | (go_at_call 115;(with_reducible refine (HBL.out _ ?hbel).mono ?_);(case hbel=>(repeat' (first | with_reducible exact HB0.out | with_reducible refine bdr ?_)));rintro e w4 ⟨rfl,hb⟩;have HB4:=Lh hb;clear hb) | (go_at_call 116;(with_reducible refine (HBC.out _ ?hbel).mono ?_);(case hbel=>(repeat' (first | with_reducible exact HB4.out | with_reducible refine bdr ?_)));rintro e w5 ⟨rfl,hb⟩;have HB5:=Lh hb;have H1:=Lh (H0.out.below hb);obtain ⟨r0,r1,r2,r3⟩:=H1.out.rb.k;have rl:=H1.out.rb.lt;obtain ⟨f0,f1,f2,f3⟩:=H1.out.rb.free;simp only [zSn] at r0 r1 r2 r3;clear hb))
  all_goals
   have HF:=Lh (show NE w R E (.returned (.tuple #[R.v,.int .i64 0])) ((((w5.setCell ⟨r,0,none⟩ (.int .i64 R.ph)).setCell ⟨r,1,none⟩ (.int .i64 R.ep)).setCell ⟨r,2,none⟩ (.int .i64 R.ck)).setCell ⟨r,3,none⟩ (.int .i64 R.sp)) from by rw [HEE.out];exact ⟨rfl,set4n_below H1.out.bel (show w.heap.size<=r by have:=H1.out.ne;omega) R⟩)
   clear HEE H1 H0 HB4 HB5 HB0 HSK HBL HBC
   go_wp2
   exact bodyPost_ret (v:=.tuple #[.agg #[.int .i64 R.ph,.int .i64 R.ep,.int .i64 R.ck,.int .i64 R.sp],.int .i64 0]) (by simp only [results,Tryz.results89];go_simp <;> rfl) rfl HF.out
 by_cases h2:ph=2
 ·subst h2
  clear h0 h1
  have hRR:R=cmN ⟨2,ep,ck,sp⟩ a.ep:=hR
  have HEE:=Lh (show E=0 from hE)
  clear hE hR
  have hR:=hRR
  clear hRR
  have HBL:=Lh (fun W (h:Below w1.heap.size w1 W)=>(nload1_any a Y W).mono fun e w' h1=>show e=.returned (.int .i64 a.ep)/\Below w1.heap.size w1 w' from ⟨h1.1,h.trans (h1.2.mono h.size)⟩)
  have HBC:=Lh (show ∀ W,Below w1.heap.size w1 W->Calls Tryz.prog 117 #[.agg #[.int .i64 2,.int .i64 ep,.int .i64 ck,.int .i64 sp],.int .i64 a.ep] W (fun e w'=>e=.returned R.v/\Below w1.heap.size w1 w') from fun W h=>(ncompare_any 2 ep ck sp a.ep W).mono fun e w' h1=>⟨by rw [hR];exact h1.1,h.trans (h1.2.mono h.size)⟩)
  clear hR
  have HSK:=Lh (show ∀ W,Below w1.heap.size w1 W->S3n p q a Y ⟨2,ep,ck,sp⟩ W from fun W h=>⟨(H0.out.pb.up h).k,(H0.out.qb.up h).k⟩)
  have HB0:=Lh (Below.refl w1.heap.size w1)
  have HNE:=Lh (show r≠p/\r≠q by have:=H0.out.ne;omega)
  go_wp2_with fail
  clear p0 p1 p2 p3 pl
  go_region_held3 (fun W=>S3n p q a Y ⟨2,ep,ck,sp⟩ W)
   (((repeat' (with_reducible refine s3_set ?_ HNE.out.1 HNE.out.2 _));refine HSK.out _ ?_;repeat' (first | with_reducible exact HB0.out | with_reducible exact HB4.out | with_reducible exact HB5.out | with_reducible refine bdr ?_ | exact nLR _ | (simp;done) | (simp;omega))))
   (first | (go_at_call 115;(with_reducible refine (HBL.out _ ?hbel).mono ?_);(case hbel=>(repeat' (first | with_reducible exact HB0.out | with_reducible refine bdr ?_)));rintro e w4 ⟨rfl,hb⟩;have HB4:=Lh hb;clear hb) | (go_at_call 117;(with_reducible refine (HBC.out _ ?hbel).mono ?_);(case hbel=>(repeat' (first | with_reducible exact HB4.out | with_reducible refine bdr ?_)));rintro e w5 ⟨rfl,hb⟩;have HB5:=Lh hb;have H1:=Lh (H0.out.below hb);obtain ⟨r0,r1,r2,r3⟩:=H1.out.rb.k;have rl:=H1.out.rb.lt;obtain ⟨f0,f1,f2,f3⟩:=H1.out.rb.free;simp only [zSn] at r0 r1 r2 r3;clear hb))
  all_goals
   have HF:=Lh (show NE w R E (.returned (.tuple #[R.v,.int .i64 0])) ((((w5.setCell ⟨r,0,none⟩ (.int .i64 R.ph)).setCell ⟨r,1,none⟩ (.int .i64 R.ep)).setCell ⟨r,2,none⟩ (.int .i64 R.ck)).setCell ⟨r,3,none⟩ (.int .i64 R.sp)) from by rw [HEE.out];exact ⟨rfl,set4n_below H1.out.bel (show w.heap.size<=r by have:=H1.out.ne;omega) R⟩)
   clear HEE H1 H0 HB4 HB5 HB0 HSK HBL HBC
   go_wp2
   exact bodyPost_ret (v:=.tuple #[.agg #[.int .i64 R.ph,.int .i64 R.ep,.int .i64 R.ck,.int .i64 R.sp],.int .i64 0]) (by simp only [results,Tryz.results89];go_simp <;> rfl) rfl HF.out
 by_cases h3:ph=3
 ·subst h3
  clear h0 h1 h2
  have hp0:nsN a.ep a.ck ⟨3,ep,ck,sp⟩ n=zSn/\nsE ⟨3,ep,ck,sp⟩=7:=⟨rfl,rfl⟩
  rw [hp0.1] at hR
  rw [hp0.2] at hE
  clear hp0
  have HF:=Lh (show NE w R E (.returned (.tuple #[.agg #[.int .i64 0,.int .i64 0,.int .i64 0,.int .i64 0],.int .i64 7])) ((((w1.setCell ⟨r,0,none⟩ (.int .i64 0)).setCell ⟨r,1,none⟩ (.int .i64 0)).setCell ⟨r,2,none⟩ (.int .i64 0)).setCell ⟨r,3,none⟩ (.int .i64 0)) from by rw [hR,hE];exact ⟨rfl,set4n_below H0.out.bel (show w.heap.size<=r by have:=H0.out.ne;omega) zSn⟩)
  clear hR hE
  obtain ⟨r0,r1,r2,r3⟩:=H0.out.rb.k
  have rl:=H0.out.rb.lt
  obtain ⟨f0,f1,f2,f3⟩:=H0.out.rb.free
  simp only [zSn] at r0 r1 r2 r3
  have hpr:¬p=r:=by have:=H0.out.ne;omega
  have hrp:¬r=p:=fun e=>hpr e.symm
  clear H0
  go_wp2
  exact bodyPost_ret (v:=.tuple #[.agg #[.int .i64 0,.int .i64 0,.int .i64 0,.int .i64 0],.int .i64 7]) (by simp only [results,Tryz.results89];go_simp <;> rfl) rfl HF.out
 ·skip
  have hp0:nsN a.ep a.ck ⟨ph,ep,ck,sp⟩ n=zSn/\nsE ⟨ph,ep,ck,sp⟩=1:=⟨by simp [nsN,h0,h1,h2],by simp [nsE,h0,h1,h2,h3]⟩
  rw [hp0.1] at hR
  rw [hp0.2] at hE
  clear hp0
  have HF:=Lh (show NE w R E (.returned (.tuple #[.agg #[.int .i64 0,.int .i64 0,.int .i64 0,.int .i64 0],.int .i64 1])) ((((w1.setCell ⟨r,0,none⟩ (.int .i64 0)).setCell ⟨r,1,none⟩ (.int .i64 0)).setCell ⟨r,2,none⟩ (.int .i64 0)).setCell ⟨r,3,none⟩ (.int .i64 0)) from by rw [hR,hE];exact ⟨rfl,set4n_below H0.out.bel (show w.heap.size<=r by have:=H0.out.ne;omega) zSn⟩)
  clear hR hE
  obtain ⟨r0,r1,r2,r3⟩:=H0.out.rb.k
  have rl:=H0.out.rb.lt
  obtain ⟨f0,f1,f2,f3⟩:=H0.out.rb.free
  simp only [zSn] at r0 r1 r2 r3
  have hpr:¬p=r:=by have:=H0.out.ne;omega
  have hrp:¬r=p:=fun e=>hpr e.symm
  have b0:(ph==0)=false:=beq_eq_false_iff_ne.2 h0
  have b1:(ph==1)=false:=beq_eq_false_iff_ne.2 h1
  have b2:(ph==2)=false:=beq_eq_false_iff_ne.2 h2
  have b3:(ph==3)=false:=beq_eq_false_iff_ne.2 h3
  clear h0 h1 h2 h3
  clear H0
  go_wp2
  exact bodyPost_ret (v:=.tuple #[.agg #[.int .i64 0,.int .i64 0,.int .i64 0,.int .i64 0],.int .i64 1]) (by simp only [results,Tryz.results89];go_simp <;> rfl) rfl HF.out
abbrev KSn (p:Nat) (s:Se) (W:World):Prop:=W.cell? ⟨p,7,none⟩=some (.int .i64 s.sn.ph)/\W.cell? ⟨p,8,none⟩=some (.int .i64 s.sn.ep)/\W.cell? ⟨p,9,none⟩=some (.int .i64 s.sn.ck)/\W.cell? ⟨p,10,none⟩=some (.int .i64 s.sn.sp)
theorem Ur.ksn {W:World} {B p:Nat} {s:Se} {X:Sex} {a:Ar} {Y:Ax} {t n:Int} (h:Ur B p s X a Y t n W):KSn p s W/\W.cell? ⟨p,38,none⟩=some (.int .i64 n):=⟨⟨h.rb.c 7 _ rfl,h.rb.c 8 _ rfl,h.rb.c 9 _ rfl,h.rb.c 10 _ rfl⟩,h.rb.c 38 _ rfl⟩
def spP (N:Nat) (a:Ar) (s:Se) (n:Int):Se:=if (nsN a.ep a.ck s.sn n).ph=3 then enP N { s with sn:=nsN a.ep a.ck s.sn n } 4 else { s with sn:=nsN a.ep a.ck s.sn n }
theorem enp_4 {N:Nat} {s:Se}:enP N s 4=s.ntr 4/\ntE N s 4=0:=by
 have h:ephF N s 4=4:=by unfold ephF;rw [if_neg (by rw [emB_not (by decide) (by decide)];decide)]
 unfold enP ntE
 rw [h]
 exact ⟨rfl,rfl⟩
theorem usnap_any {B p:Nat} {s:Se} {X:Sex} {a:Ar} {Y:Ax} {t n:Int} (wr:World) (h:Ur B p s X a Y t n wr) (hl:s.lk.cs.length<=9) (hE:nsE s.sn=0):Calls Tryz.prog 61 #[.pointer (some ⟨p,0,none⟩)] wr (UrP B p t n (spP a.sl.length a s n) a 0 wr):=by
 have HT:=Lh (fun W=>nstep_any a Y s.sn.ph s.sn.ep s.sn.ck s.sn.sp n W)
 rw [show (⟨s.sn.ph,s.sn.ep,s.sn.ck,s.sn.sp⟩:Sn)=s.sn from rfl,hE] at HT
 replace HT:=Lh (fun W (_:Below wr.heap.size wr W)=>HT.out W)
 have HEN:=Lh (fun x W (k:Ur B p { s with sn:=x } X a Y t n W)=>uenter_any 4 W k hl (by decide) (by decide))
 have H0:=Lh h
 obtain ⟨M,hM⟩:∃ x,x=nsN a.ep a.ck s.sn n:=⟨_,rfl⟩
 have HRR:=Lh (show spP a.sl.length a s n=if M.ph=3 then enP a.sl.length { s with sn:=M } 4 else { s with sn:=M } from by rw [hM];rfl)
 rw [<-hM] at HT
 generalize spP a.sl.length a s n=R at*
 clear h hl hE hM
 have HSK:=Lh (show ∀ W,Below wr.heap.size wr W->KAr p a Y W/\KSn p s W/\W.cell? ⟨p,38,none⟩=some (.int .i64 n) from fun W k=>⟨(H0.out.up k).kar,(H0.out.up k).ksn⟩)
 have HB0:=Lh (Below.refl wr.heap.size wr)
 go_enter Tryz.func61,Tryz.ntmps61
 go_upto_region 1 with (fail)
 go_cut [3,4] (fun s16 s18 wx=>∃ u,s16=.pointer (some ⟨u,0,none⟩)/\s18=.int .i64 0/\Hid (Nz wr u [.int .i64 M.ph,.int .i64 M.ep,.int .i64 M.ck,.int .i64 M.sp] wx))
 case first=>
  go_region_held3 (fun W=>KAr p a Y W/\KSn p s W/\W.cell? ⟨p,38,none⟩=some (.int .i64 n))
   ((refine HSK.out _ ?_;repeat' (first | with_reducible exact HB0.out | with_reducible exact HB4.out | with_reducible refine bal ?_ _ | with_reducible refine bdr ?_ | with_reducible refine bst ?_ ?_ _ | exact nLR _ | (simp;done) | (simp;omega))))
   (first | (go_at_call 89;(with_reducible refine (HT.out _ ?hbel).mono ?_);(case hbel=>(repeat' (first | with_reducible exact HB0.out | with_reducible refine bal ?_ _ | with_reducible refine bdr ?_)));rintro e w4 ⟨rfl,hb⟩;have HP:=Lh (nz_2 (zs:=[.int .i64 0,.int .i64 0,.int .i64 0,.int .i64 0]) (cs:=[.int .i64 M.ph,.int .i64 M.ep,.int .i64 M.ck,.int .i64 M.sp]) 47 rfl hb).2;have HXU:=Lh (nz_2 (zs:=[.int .i64 0,.int .i64 0,.int .i64 0,.int .i64 0]) (cs:=[.int .i64 M.ph,.int .i64 M.ep,.int .i64 M.ck,.int .i64 M.sp]) 47 rfl hb).1;have HB4:=Lh ((bdr (bal HB0.out (.cells #[.int .i64 0,.int .i64 0,.int .i64 0,.int .i64 0] 47))).trans (hb.mono (by simp <;> omega)));have z0:=HXU.out.c 0 _ rfl;have f0:=HXU.out.f 0;have z1:=HXU.out.c 1 _ rfl;have f1:=HXU.out.f 1;have z2:=HXU.out.c 2 _ rfl;have f2:=HXU.out.f 2;have z3:=HXU.out.c 3 _ rfl;have f3:=HXU.out.f 3;have zl:=HXU.out.lt;clear hb) | (go_at_call 89;(with_reducible refine (HT.out _ ?hbel).mono ?_);(case hbel=>(repeat' (first | with_reducible exact HB0.out | with_reducible refine bal ?_ _ | with_reducible refine bdr ?_)));rintro e w4 ⟨rfl,hb⟩;have HP:=Lh (nz_1 (cs:=[.int .i64 M.ph,.int .i64 M.ep,.int .i64 M.ck,.int .i64 M.sp]) 47 (bdr HB0.out) hb);have HB4:=Lh ((bdr HB0.out).trans (hb.mono (by simp <;> omega)));clear hb))
  all_goals
   go_wp2_with fail
   go_meet
   exact ⟨_,rfl,rfl,HP⟩
 case rest=>
  obtain ⟨u,rfl,rfl,HN⟩:=hcut
  have HBB:=Lh (show Below B wr wc from HN.out.bel.mono (Nat.le_trans H0.out.ne (Nat.le_of_lt H0.out.lt)))
  have H1:=Lh (H0.out.up HN.out.bel)
  have HNE:=Lh (show ¬p=u from Nat.ne_of_lt (Nat.lt_of_lt_of_le H0.out.lt HN.out.ne))
  clear HT HSK HB0 H0
  generalize wc=w1 at*
  have u0:=HN.out.ub.c 0 _ rfl
  have u1:=HN.out.ub.c 1 _ rfl
  have u2:=HN.out.ub.c 2 _ rfl
  have u3:=HN.out.ub.c 3 _ rfl
  have ul:=HN.out.ub.lt
  have c7:=H1.out.rb.c 7 _ rfl
  have f7:=H1.out.rb.f 7
  have c8:=H1.out.rb.c 8 _ rfl
  have f8:=H1.out.rb.f 8
  have c9:=H1.out.rb.c 9 _ rfl
  have f9:=H1.out.rb.f 9
  have c10:=H1.out.rb.c 10 _ rfl
  have f10:=H1.out.rb.f 10
  have yl:=H1.out.rb.lt
  have npu:=HNE.out
  have nup:¬u=p:=fun e=>npu e.symm
  have H2:=Lh (H1.out.snp M)
  have HB2:=Lh (show Below B wr ((((w1.setCell ⟨p,7,none⟩ (.int .i64 M.ph)).setCell ⟨p,8,none⟩ (.int .i64 M.ep)).setCell ⟨p,9,none⟩ (.int .i64 M.ck)).setCell ⟨p,10,none⟩ (.int .i64 M.sp)) from (((HBB.out.setCell (p:=⟨p,7,none⟩) H1.out.ne _).setCell (p:=⟨p,8,none⟩) H1.out.ne _).setCell (p:=⟨p,9,none⟩) H1.out.ne _).setCell (p:=⟨p,10,none⟩) H1.out.ne _)
  have HN2:=Lh (show Rb ((((w1.setCell ⟨p,7,none⟩ (.int .i64 M.ph)).setCell ⟨p,8,none⟩ (.int .i64 M.ep)).setCell ⟨p,9,none⟩ (.int .i64 M.ck)).setCell ⟨p,10,none⟩ (.int .i64 M.sp)) u [.int .i64 M.ph,.int .i64 M.ep,.int .i64 M.ck,.int .i64 M.sp] from (((HN.out.ub.other (a:=⟨p,7,none⟩) npu _).other (a:=⟨p,8,none⟩) npu _).other (a:=⟨p,9,none⟩) npu _).other (a:=⟨p,10,none⟩) npu _)
  clear H1 HBB HN
  go_upto_region 5 with (fail)
  clear u0 u1 u2 u3 ul c7 f7 c8 f8 c9 f9 c10 f10 yl npu nup
  generalize ((((w1.setCell ⟨p,7,none⟩ (.int .i64 M.ph)).setCell ⟨p,8,none⟩ (.int .i64 M.ep)).setCell ⟨p,9,none⟩ (.int .i64 M.ck)).setCell ⟨p,10,none⟩ (.int .i64 M.sp))=w2 at*
  have u0:=HN2.out.c 0 _ rfl
  have ul:=HN2.out.lt
  by_cases h3:M.ph=3
  ·have hb:(M.ph != 3)=false:=by simp [h3]
   have HR:=Lh (HRR.out.trans (if_pos h3))
   clear h3 HRR
   go_wp2_with fail
   clear u0 ul
   refine (HEN.out M _ H2.out).mono ?_
   rw [enp_4.2]
   rintro e w3 ⟨X3,Y3,rfl,hu,hbb⟩
   have HF:=Lh (show UrP B p t n R a 0 wr (.returned (.int .i64 0)) w3 from ⟨X3,Y3,rfl,by rw [HR.out];exact hu,HB2.out.trans hbb⟩)
   clear hu hbb H2 HB2 HN2 HEN HR
   go_wp2
   go_ret
   exact HF.out
  ·have hb:(M.ph != 3)=true:=bne_iff_ne.2 h3
   have HF:=Lh (show UrP B p t n R a 0 wr (.returned (.int .i64 0)) w2 from by rw [HRR.out.trans (if_neg h3)];exact H2.out.rp HB2.out 0)
   clear h3 HRR H2 HB2 HN2 HEN
   go_wp2
   go_ret
   exact HF.out
theorem uatsh_any (A:Option Addr) (c:Nat) (q:List Hs) (k:Nat) (S0:Sh) (D0:Sx) (w:World) (hr:RR w w.heap.size (hRows A q)) (hc:∀ x∈q,ShCap x.S x.D) (hk:k<q.length):Calls Tryz.prog 120 #[.slice A q.length c,.int .i64 (k:Int),sv S0 D0] w fun e w'=>e=.returned (sv (q[k]).S (q[k]).D)/\Below w.heap.size w w':=by
 have hbl:=((Below.refl w.heap.size w).alloc (nLR _) (.cells #[.bool S0.lv,.int .i64 S0.lo,.int .i64 S0.hi,.slice D0.A S0.cs.length D0.c,.int .i64 S0.hd,.int .i64 S0.sz,.slice D0.A2 S0.l.length D0.c2,.slice D0.A3 S0.h.length D0.c3] 72)).alloc (by simp) (.cells #[.bool false,.int .i64 0,.int .i64 0,.slice none 0 0,.int .i64 0,.int .i64 0,.slice none 0 0,.slice none 0 0] 72)
 obtain ⟨⟨b,o,rfl,hb,hcell⟩,-⟩:=hrows_at (hr.below hbl) hk hc
 have HR:=Lh (show SB8 ((w.alloc (.cells #[.bool S0.lv,.int .i64 S0.lo,.int .i64 S0.hi,.slice D0.A S0.cs.length D0.c,.int .i64 S0.hd,.int .i64 S0.sz,.slice D0.A2 S0.l.length D0.c2,.slice D0.A3 S0.h.length D0.c3] 72)).alloc (.cells #[.bool false,.int .i64 0,.int .i64 0,.slice none 0 0,.int .i64 0,.int .i64 0,.slice none 0 0,.slice none 0 0] 72)) (w.heap.size+1) zS zX from by
  have:=SB8.zero (w.alloc (.cells #[.bool S0.lv,.int .i64 S0.lo,.int .i64 S0.hi,.slice D0.A S0.cs.length D0.c,.int .i64 S0.hd,.int .i64 S0.sz,.slice D0.A2 S0.l.length D0.c2,.slice D0.A3 S0.h.length D0.c3] 72)) 72
  rw [show (w.alloc (.cells #[.bool S0.lv,.int .i64 S0.lo,.int .i64 S0.hi,.slice D0.A S0.cs.length D0.c,.int .i64 S0.hd,.int .i64 S0.sz,.slice D0.A2 S0.l.length D0.c2,.slice D0.A3 S0.h.length D0.c3] 72)).heap.size=w.heap.size+1 by simp] at this
  exact this)
 have HBL:=Lh hbl
 generalize q[k]=T at*
 obtain ⟨S,D⟩:=T
 have hc0:=hcell 0 _ rfl
 have hc1:=hcell 1 _ rfl
 have hc2:=hcell 2 _ rfl
 have hc3:=hcell 3 _ rfl
 have hc4:=hcell 4 _ rfl
 have hc5:=hcell 5 _ rfl
 have hc6:=hcell 6 _ rfl
 have hc7:=hcell 7 _ rfl
 obtain ⟨r,hr⟩:∃ r,r=w.heap.size+1:=⟨_,rfl⟩
 have hrb:¬b=r:=by omega
 have hbr:¬r=b:=by omega
 have h1:¬(k:Int)<0:=by omega
 have h3:¬(q.length:Int)<=(k:Int):=by omega
 rw [<-hr] at HR
 have HW:=Lh (show w.heap.size<=r from by omega)
 simp only [Nat.add_zero] at hc0
 rw [<-Nat.add_assoc] at hc1 hc2 hc3 hc4 hc5 hc6 hc7
 clear hb hbl hc hcell
 go_enter Tryz.func120,Tryz.ntmps120
 go_upto_region 1 with (fail)
 rw [<-hr]
 clear hr
 generalize (w.alloc (.cells #[.bool S0.lv,.int .i64 S0.lo,.int .i64 S0.hi,.slice D0.A S0.cs.length D0.c,.int .i64 S0.hd,.int .i64 S0.sz,.slice D0.A2 S0.l.length D0.c2,.slice D0.A3 S0.h.length D0.c3] 72)).alloc (.cells #[.bool false,.int .i64 0,.int .i64 0,.slice none 0 0,.int .i64 0,.int .i64 0,.slice none 0 0,.slice none 0 0] 72)=w2 at*
 have HF:=Lh (show Below w.heap.size w ((((((((w2.setCell ⟨r,0,none⟩ (.bool S.lv)).setCell ⟨r,1,none⟩ (.int .i64 S.lo)).setCell ⟨r,2,none⟩ (.int .i64 S.hi)).setCell ⟨r,3,none⟩ (.slice D.A S.cs.length D.c)).setCell ⟨r,4,none⟩ (.int .i64 S.hd)).setCell ⟨r,5,none⟩ (.int .i64 S.sz)).setCell ⟨r,6,none⟩ (.slice D.A2 S.l.length D.c2)).setCell ⟨r,7,none⟩ (.slice D.A3 S.h.length D.c3)) from stN15_below (vs:=[.bool S.lv,.int .i64 S.lo,.int .i64 S.hi,.slice D.A S.cs.length D.c,.int .i64 S.hd,.int .i64 S.sz,.slice D.A2 S.l.length D.c2,.slice D.A3 S.h.length D.c3]) HBL.out HW.out 0)
 obtain ⟨r0,r1,r2,r3,r4,r5,r6,r7,rl⟩:=HR.out.facts
 obtain ⟨f0,f1,f2,f3,f4,f5,f6,f7⟩:=HR.out.free
 clear HR HBL HW
 go_wp2
 exact bodyPost_ret (v:=sv S D) (by simp only [results,Tryz.results120];go_simp <;> rfl) rfl ⟨rfl,HF.out⟩
abbrev S9a (q p:Nat) (S:Sh) (D:Sx) (A:Option Addr) (m c:Nat) (W:World):Prop:=K8 q S D W/\W.cell? ⟨p,0,none⟩=some (.slice A m c)
theorem s9a_set {q p m c:Nat} {S:Sh} {D:Sx} {A:Option Addr} {W:World} {x:Addr} (h:S9a q p S D A m c W) (hq:x.block≠q) (hp:x.block≠p) (v:Value):S9a q p S D A m c (W.setCell x v):=by
 have g:∀ (b o:Nat),x.block≠b->(W.setCell x v).cell? ⟨b,o,none⟩=W.cell? ⟨b,o,none⟩:=fun b o hb=>World.cell?_setCell_other W x ⟨b,o,none⟩ v (fun e=>hb (by rw [e]))
 unfold S9a K8 at h ⊢
 simp only [g q _ hq,g p _ hp]
 exact h
theorem astoreslot_yes (a:Ar) (Y:Ax) (n:Nat) (t:Int) (S:Sh) (D:Sx) (w:World) (har:AR w w.heap.size a Y) (hf:a.Few) (hs:SR w w.heap.size S D) (hE:slE a (n:Int) t=0) (hV:shV S=0) (hL:S.cs.length=(og a.sl n).sh.cs.length) (hb3:S.cs.length<=1000/\S.l.length<=1000/\S.h.length<=1000):Calls Tryz.prog 119 #[av a Y,.int .i64 (n:Int),.int .i64 t,sv S D] w (AE w (a.setSh n S) 0):=by
 obtain ⟨p,hp⟩:∃ p,p=w.heap.size:=⟨_,rfl⟩
 obtain ⟨q,hq⟩:∃ q,q=w.heap.size+1:=⟨_,rfl⟩
 obtain ⟨r,hr⟩:∃ r,r=w.heap.size+2:=⟨_,rfl⟩
 have H0:=Lh (show Ci12 w p r a Y _ from by rw [hr,hp];exact Ci12.start3 har (.cells #[.bool S.lv,.int .i64 S.lo,.int .i64 S.hi,.slice D.A S.cs.length D.c,.int .i64 S.hd,.int .i64 S.sz,.slice D.A2 S.l.length D.c2,.slice D.A3 S.h.length D.c3] 72))
 have HQ0:=Lh (show SB8 (((w.alloc (.cells #[.slice Y.A a.sl.length Y.c,.slice Y.A2 a.st.length Y.c2,.int .i64 a.ow,.int .i64 a.cap,.slice Y.A3 a.dl.length Y.c3,.int .i64 a.dir.vn,.slice Y.D.A a.dir.l.length Y.D.c,.slice Y.D.A2 a.dir.F.length Y.D.c2,.int .i64 a.ep,.int .i64 a.ck,.int .i64 a.ni] 36)).alloc (.cells #[.bool S.lv,.int .i64 S.lo,.int .i64 S.hi,.slice D.A S.cs.length D.c,.int .i64 S.hd,.int .i64 S.sz,.slice D.A2 S.l.length D.c2,.slice D.A3 S.h.length D.c3] 72)).alloc (.cells #[.slice none 0 0,.slice none 0 0,.int .i64 0,.int .i64 0,.slice none 0 0,.int .i64 0,.slice none 0 0,.slice none 0 0,.int .i64 0,.int .i64 0,.int .i64 0] 36)) q S D from by
  have h1:=SB8.start (w.alloc (.cells #[.slice Y.A a.sl.length Y.c,.slice Y.A2 a.st.length Y.c2,.int .i64 a.ow,.int .i64 a.cap,.slice Y.A3 a.dl.length Y.c3,.int .i64 a.dir.vn,.slice Y.D.A a.dir.l.length Y.D.c,.slice Y.D.A2 a.dir.F.length Y.D.c2,.int .i64 a.ep,.int .i64 a.ck,.int .i64 a.ni] 36)) S D 72
  rw [show (w.alloc (.cells #[.slice Y.A a.sl.length Y.c,.slice Y.A2 a.st.length Y.c2,.int .i64 a.ow,.int .i64 a.cap,.slice Y.A3 a.dl.length Y.c3,.int .i64 a.dir.vn,.slice Y.D.A a.dir.l.length Y.D.c,.slice Y.D.A2 a.dir.F.length Y.D.c2,.int .i64 a.ep,.int .i64 a.ck,.int .i64 a.ni] 36)).heap.size=w.heap.size+1 by simp,<-hq] at h1
  exact h1.up ((Below.refl _ _).alloc (nLR _) (.cells #[.slice none 0 0,.slice none 0 0,.int .i64 0,.int .i64 0,.slice none 0 0,.int .i64 0,.slice none 0 0,.slice none 0 0,.int .i64 0,.int .i64 0,.int .i64 0] 36)))
 have HPP:=Lh (show p=w.heap.size/\q=w.heap.size+1/\r=w.heap.size+2 from ⟨hp,hq,hr⟩)
 have HLK:=Lh (fun W (k' : Ci12 w p r a Y W)=>asloterr_any a Y (n:Int) t W (k'.ar.more k'.bel.size) hf)
 rw [hE] at HLK
 have HVL:=Lh (fun W (k' : Below w.heap.size w W)=>svalid_any S D W ((hs.below k').more k'.size))
 rw [hV] at HVL
 have HCL:=Lh (fun W (k:Ci12 w p r a Y W)=>aclone_any a Y W (k.ar.more k.bel.size) hf)
 have HCS:=Lh (fun W (k' : Below w.heap.size w W)=>cshard_any S D W ((hs.below k').more k'.size) hb3.1 hb3.2.1 hb3.2.2)
 have HN:=Lh (show n<a.sl.length from by have:=sl_nat hE;omega)
 have HLL:=Lh hL
 obtain ⟨B,hB⟩:∃ B,B=a.setSh n S:=⟨_,rfl⟩
 rw [<-hB]
 have HBB:=Lh hB
 clear hp hq hr har hf hs hE hV hL hb3 hB
 go_enter Tryz.func119,Tryz.ntmps119
 go_upto_region 1 with (fail)
 rw [<-HPP.out.2.2,<-HPP.out.2.1,<-HPP.out.1]
 generalize ((w.alloc (.cells #[.slice Y.A a.sl.length Y.c,.slice Y.A2 a.st.length Y.c2,.int .i64 a.ow,.int .i64 a.cap,.slice Y.A3 a.dl.length Y.c3,.int .i64 a.dir.vn,.slice Y.D.A a.dir.l.length Y.D.c,.slice Y.D.A2 a.dir.F.length Y.D.c2,.int .i64 a.ep,.int .i64 a.ck,.int .i64 a.ni] 36)).alloc (.cells #[.bool S.lv,.int .i64 S.lo,.int .i64 S.hi,.slice D.A S.cs.length D.c,.int .i64 S.hd,.int .i64 S.sz,.slice D.A2 S.l.length D.c2,.slice D.A3 S.h.length D.c3] 72)).alloc (.cells #[.slice none 0 0,.slice none 0 0,.int .i64 0,.int .i64 0,.slice none 0 0,.int .i64 0,.slice none 0 0,.slice none 0 0,.int .i64 0,.int .i64 0,.int .i64 0] 36)=w1 at*
 obtain ⟨y0,y1,y2,y3,y4,y5,y6,y7,y8,y9,y10⟩:=H0.out.pb.k
 have yl:=H0.out.pb.lt
 go_wp2_with fail
 clear y0 y1 y2 y3 y4 y5 y6 y7 y8 y9 y10 yl
 refine (HLK.out _ H0.out).mono ?_
 rintro e w2 ⟨rfl,hb⟩
 have H1:=Lh (H0.out.below hb)
 have HQ1:=Lh (HQ0.out.up hb)
 clear hb H0 HLK HQ0
 obtain ⟨s0,s1,s2,s3,s4,s5,s6,s7,sl⟩:=HQ1.out.facts
 go_wp2_with fail
 clear s0 s1 s2 s3 s4 s5 s6 s7 sl
 refine (HVL.out _ H1.out.bel).mono ?_
 rintro e w2' ⟨rfl,hb⟩
 replace H1:=Lh (H1.out.below hb)
 replace HQ1:=Lh (HQ1.out.up hb)
 clear hb HVL
 obtain ⟨D0,b0,o0,hA,-,h9,-,-⟩:=(H1.out.ar.more H1.out.bel.size).at2 HN.out
 obtain ⟨q0,q1,q2,q3,q4,q5,q6,q7,q8⟩:=h9
 simp only at q0 q1 q2 q3 q4 q5 q6 q7 q8
 rw [<-HLL.out] at q4
 obtain ⟨s0,s1,s2,s3,s4,s5,s6,s7,sl⟩:=HQ1.out.facts
 obtain ⟨y0,-⟩:=H1.out.pb.k
 have yl:=H1.out.pb.lt
 rw [hA] at y0
 have hlt:=HN.out
 have hlt' : (n:Int)<(a.sl.length:Int):=by omega
 have hn0:(0:Int)<=(n:Int):=by omega
 clear hA q0 q1 q2 q3 q5 q6 q7 q8 HLL
 go_upto_region 7 with (fail)
 go_cut [39] (fun s39 wx=>s39=.bool false/\Below w2'.heap.size w2' wx)
 case first=>
  go_region
  all_goals
   go_wp2_with fail
   go_meet
   exact ⟨rfl,(Below.refl _ _).drew⟩
 case rest=>
  clear q4 s0 s1 s2 s3 s4 s5 s6 s7 sl y0 yl hlt hlt' hn0
  obtain ⟨rfl,hb⟩:=hcut
  replace H1:=Lh (H1.out.below hb)
  replace HQ1:=Lh (HQ1.out.up hb)
  clear hb
  obtain ⟨y0,y1,y2,y3,y4,y5,y6,y7,y8,y9,y10⟩:=H1.out.pb.k
  have yl:=H1.out.pb.lt
  go_wp2_with fail
  clear y0 y1 y2 y3 y4 y5 y6 y7 y8 y9 y10 yl
  refine (HCL.out _ H1.out).mono ?_
  rintro e w3 ⟨Z,b,rfl,hnw,har,hb,ea,ec,hrow,o1,o2,o3,o4⟩
  have HC:=Lh (show Cb12 w p r b a Z (((((((((((w3.setCell ⟨p,0,none⟩ (.slice Z.A a.sl.length Z.c)).setCell ⟨p,1,none⟩ (.slice Z.A2 a.st.length Z.c2)).setCell ⟨p,2,none⟩ (.int .i64 a.ow)).setCell ⟨p,3,none⟩ (.int .i64 a.cap)).setCell ⟨p,4,none⟩ (.slice Z.A3 a.dl.length Z.c3)).setCell ⟨p,5,none⟩ (.int .i64 a.dir.vn)).setCell ⟨p,6,none⟩ (.slice Z.D.A a.dir.l.length Z.D.c)).setCell ⟨p,7,none⟩ (.slice Z.D.A2 a.dir.F.length Z.D.c2)).setCell ⟨p,8,none⟩ (.int .i64 a.ep)).setCell ⟨p,9,none⟩ (.int .i64 a.ck)).setCell ⟨p,10,none⟩ (.int .i64 a.ni)) from H1.out.copied hb hnw har ea ec hrow o1 o2 o3 o4)
  have HNW:=Lh (hnw.low (show r+1<=_ from H1.out.rb.lt))
  have H2:=Lh (H1.out.below hb)
  have HQ2:=Lh (show SB8 (((((((((((w3.setCell ⟨p,0,none⟩ (.slice Z.A a.sl.length Z.c)).setCell ⟨p,1,none⟩ (.slice Z.A2 a.st.length Z.c2)).setCell ⟨p,2,none⟩ (.int .i64 a.ow)).setCell ⟨p,3,none⟩ (.int .i64 a.cap)).setCell ⟨p,4,none⟩ (.slice Z.A3 a.dl.length Z.c3)).setCell ⟨p,5,none⟩ (.int .i64 a.dir.vn)).setCell ⟨p,6,none⟩ (.slice Z.D.A a.dir.l.length Z.D.c)).setCell ⟨p,7,none⟩ (.slice Z.D.A2 a.dir.F.length Z.D.c2)).setCell ⟨p,8,none⟩ (.int .i64 a.ep)).setCell ⟨p,9,none⟩ (.int .i64 a.ck)).setCell ⟨p,10,none⟩ (.int .i64 a.ni)) q S D/\q<b from by
   have hpq:p≠q:=by have:=HPP.out;omega
   have hqb:q<b:=Nat.lt_of_lt_of_le HQ1.out.lt (hnw.n1 _ ea)
   exact ⟨(((((((((((HQ1.out.up hb).other (q:=⟨p,0,none⟩) hpq _).other (q:=⟨p,1,none⟩) hpq _).other (q:=⟨p,2,none⟩) hpq _).other (q:=⟨p,3,none⟩) hpq _).other (q:=⟨p,4,none⟩) hpq _).other (q:=⟨p,5,none⟩) hpq _).other (q:=⟨p,6,none⟩) hpq _).other (q:=⟨p,7,none⟩) hpq _).other (q:=⟨p,8,none⟩) hpq _).other (q:=⟨p,9,none⟩) hpq _).other (q:=⟨p,10,none⟩) hpq _,hqb⟩)
  clear hnw har hb ea ec hrow o1 o2 o3 o4 H1 HQ1 HCL
  obtain ⟨y0,y1,y2,y3,y4,y5,y6,y7,y8,y9,y10⟩:=H2.out.pb.k
  have yl:=H2.out.pb.lt
  obtain ⟨f0,f1,f2,f3,f4,f5,f6,f7,f8,f9,f10⟩:=H2.out.pb.free
  go_upto_region 10 with (fail)
  clear y0 y1 y2 y3 y4 y5 y6 y7 y8 y9 y10 yl f0 f1 f2 f3 f4 f5 f6 f7 f8 f9 f10 H2
  generalize ((((((((((w3.setCell ⟨p,0,none⟩ (.slice Z.A a.sl.length Z.c)).setCell ⟨p,1,none⟩ (.slice Z.A2 a.st.length Z.c2)).setCell ⟨p,2,none⟩ (.int .i64 a.ow)).setCell ⟨p,3,none⟩ (.int .i64 a.cap)).setCell ⟨p,4,none⟩ (.slice Z.A3 a.dl.length Z.c3)).setCell ⟨p,5,none⟩ (.int .i64 a.dir.vn)).setCell ⟨p,6,none⟩ (.slice Z.D.A a.dir.l.length Z.D.c)).setCell ⟨p,7,none⟩ (.slice Z.D.A2 a.dir.F.length Z.D.c2)).setCell ⟨p,8,none⟩ (.int .i64 a.ep)).setCell ⟨p,9,none⟩ (.int .i64 a.ck)).setCell ⟨p,10,none⟩ (.int .i64 a.ni)=w4 at*
  have HE:=Lh (show Z.A=some ⟨b,0,none⟩/\b<w4.heap.size/\n<Z.q.length from ⟨HC.out.ea,HC.out.ro.lt,by rw [HC.out.len];exact HN.out⟩)
  have HSK:=Lh (show ∀ W,Below w4.heap.size w4 W->S9a q p S D (some ⟨b,0,none⟩) a.sl.length Z.c W from fun W h=>⟨(HQ2.out.1.up h).k8,by rw [<-HE.out.1];exact (HC.out.pb.up h).k.1⟩)
  have HB0:=Lh (Below.refl w4.heap.size w4)
  have HNE:=Lh (show b≠q/\b≠p from by have:=HQ2.out.2;have:=HC.out.ne;omega)
  have HCS4:=Lh (show ∀ W,Below w4.heap.size w4 W->Calls Tryz.prog 57 #[sv S D] W (fun e w'=>∃ E:Sx,e=.returned (sv S E)/\E.nw w4.heap.size/\SR w' w'.heap.size S E/\Below w4.heap.size w4 w') from fun W h=>(HCS.out W (HC.out.bel.trans (h.mono HC.out.bel.size))).mono fun e w' h1=>by
   obtain ⟨E,e1,e2,e3,e4⟩:=h1
   exact ⟨E,e1,e2.low h.size,e3,h.trans (e4.mono h.size)⟩)
  have hlt' : (n:Int)<(a.sl.length:Int):=by have:=HN.out;omega
  have hlt:=HN.out
  have hn0:(0:Int)<=(n:Int):=by omega
  clear HCS
  go_cut [] (fun wx=>∃ Y' : Ax,Hid (Cb12 w p r b B Y' wx/\Y'.nw (r+1)))
  case first=>
   go_region_held3 (fun W=>S9a q p S D (some ⟨b,0,none⟩) a.sl.length Z.c W)
    (((repeat' (with_reducible refine s9a_set ?_ HNE.out.1 HNE.out.2 _));refine HSK.out _ ?_;repeat' (first | with_reducible exact HB0.out | with_reducible exact HB5.out | with_reducible refine bdr ?_ | exact nLR _ | (simp;done) | (simp;omega))))
    ((go_at_call 57;(with_reducible refine (HCS4.out _ ?hbel).mono ?_);(case hbel=>(repeat' (first | with_reducible exact HB0.out | with_reducible refine bdr ?_)));rintro e w5 ⟨E,rfl,hn5,hr5,hb5⟩;have HB5:=Lh hb5;have HC5:=Lh (HC.out.below hb5);have HR5:=Lh (And.intro hn5 hr5);have c1:=HC5.out.ro.c (n*9+1) _ (qcs_at Z.q n 1 HE.out.2.2 (by omega));have c2:=HC5.out.ro.c (n*9+2) _ (qcs_at Z.q n 2 HE.out.2.2 (by omega));have c3:=HC5.out.ro.c (n*9+3) _ (qcs_at Z.q n 3 HE.out.2.2 (by omega));have c4:=HC5.out.ro.c (n*9+4) _ (qcs_at Z.q n 4 HE.out.2.2 (by omega));have c5:=HC5.out.ro.c (n*9+5) _ (qcs_at Z.q n 5 HE.out.2.2 (by omega));have c6:=HC5.out.ro.c (n*9+6) _ (qcs_at Z.q n 6 HE.out.2.2 (by omega));have c7:=HC5.out.ro.c (n*9+7) _ (qcs_at Z.q n 7 HE.out.2.2 (by omega));have c8:=HC5.out.ro.c (n*9+8) _ (qcs_at Z.q n 8 HE.out.2.2 (by omega));have bl:=HC5.out.ro.lt;have g1:=HC5.out.ro.f (n*9+1);have g2:=HC5.out.ro.f (n*9+2);have g3:=HC5.out.ro.f (n*9+3);have g4:=HC5.out.ro.f (n*9+4);have g5:=HC5.out.ro.f (n*9+5);have g6:=HC5.out.ro.f (n*9+6);have g7:=HC5.out.ro.f (n*9+7);have g8:=HC5.out.ro.f (n*9+8);clear hn5 hr5 hb5))
   all_goals
    have hi:Z.q[n]? = some ⟨(Z.q[n]'HE.out.2.2).ow,(Z.q[n]'HE.out.2.2).sh,(Z.q[n]'HE.out.2.2).sx⟩:=List.getElem?_eq_getElem HE.out.2.2
    have hx:=HC5.out.put hi HR5.out.2 (HR5.out.1.low (show b+1<=w4.heap.size from HE.out.2.1))
    rw [<-HBB.out] at hx
    have HXX:=Lh hx
    have HNN:=Lh ((show Ax.nw ⟨Z.A,Z.c,Z.q.set n ⟨(Z.q[n]'HE.out.2.2).ow,S,E⟩,Z.A2,Z.c2,Z.A3,Z.c3,Z.D⟩ (r+1) from ⟨HNW.out.n1,fun s hs=>by
     rcases List.mem_or_eq_of_mem_set hs with h1 | rfl
     ·exact HNW.out.ns s h1
     ·exact HR5.out.1.low (by have:=HC.out.ne;have:=HE.out.2.1;omega),HNW.out.n2,HNW.out.n3,HNW.out.n4⟩))
    clear hi hx c1 c2 c3 c4 c5 c6 c7 c8 bl g1 g2 g3 g4 g5 g6 g7 g8
    go_wp2_with fail
    go_meet
    exact ⟨_,Lh ⟨HXX.out,HNN.out⟩⟩
  case rest=>
   clear HC HQ2 HNW HE HSK HB0 HNE HCS4 hlt hlt' hn0 HBB
   obtain ⟨Y',HH⟩:=hcut
   have HCB:=Lh HH.out.1
   have HNY:=Lh HH.out.2
   clear HH
   have HF:=Lh (ae_out (show w.heap.size<=r by have:=HCB.out.ne;omega) HCB.out.bel HNY.out (nLR r) HCB.out.ar 0)
   obtain ⟨y0,y1,y2,y3,y4,y5,y6,y7,y8,y9,y10⟩:=HCB.out.pb.k
   have yl:=HCB.out.pb.lt
   obtain ⟨r0,r1,r2,r3,r4,r5,r6,r7,r8,r9,r10⟩:=HCB.out.rb.k
   have rl:=HCB.out.rb.lt
   obtain ⟨f0,f1,f2,f3,f4,f5,f6,f7,f8,f9,f10⟩:=HCB.out.rb.free
   have hpr:¬p=r:=by have:=HCB.out.ne;omega
   have hrp:¬r=p:=fun e=>hpr e.symm
   clear HCB HNY
   go_wp2
   exact bodyPost_ret (v:=.tuple #[av B Y',.int .i64 0]) (by simp only [results,Tryz.results119];go_simp <;> rfl) rfl HF.out
structure Wb14 (w:World) (p r:Nat) (a:Ar) (Y:Ax) (W:World):Prop where
 pb:QB W p a Y
 rb:QB W r zA zAx
 ar:AR W W.heap.size a Y
 nw:Y.nw (r+1)
 ne:w.heap.size<=p/\p<r
 bel:Below w.heap.size w W
section
variable {w W W' : World} {p r:Nat} {a b:Ar} {Y Z:Ax}
theorem Wb14.below (h:Wb14 w p r a Y W) (hb:Below W.heap.size W W'):Wb14 w p r a Y W':=⟨h.pb.up hb,h.rb.up hb,h.ar.up hb,h.nw,h.ne,h.bel.trans (hb.mono h.bel.size)⟩
theorem QB.set11w {q:Nat} (h:QB W q a Y) (hp:p≠q) (b:Ar) (Z:Ax):QB (set11 W p b Z) q a Y:=
 ((((((((((h.other (x:=⟨p,0,none⟩) hp _).other (x:=⟨p,1,none⟩) hp _).other (x:=⟨p,2,none⟩) hp _).other (x:=⟨p,3,none⟩) hp _).other (x:=⟨p,4,none⟩) hp _).other (x:=⟨p,5,none⟩) hp _).other (x:=⟨p,6,none⟩) hp _).other (x:=⟨p,7,none⟩) hp _).other (x:=⟨p,8,none⟩) hp _).other (x:=⟨p,9,none⟩) hp _).other (x:=⟨p,10,none⟩) hp _
theorem Wb14.of (h:Ci12 w p r a Y W) (hb:Below W.heap.size W W') (hn:Z.nw W.heap.size) (hr:AR W' W'.heap.size b Z):Wb14 w p r b Z (set11 W' p b Z):=
 ⟨(h.pb.up hb).set b Z,(h.rb.up hb).set11w (by have:=h.ne;omega) b Z,(hr.set11 (hn.off h.pb.lt) b Z).more (by rw [set11_size];exact nLR _),hn.low h.rb.lt,h.ne,set11_below (h.bel.trans (hb.mono h.bel.size)) h.ne.1 b Z⟩
end
def Ar.setDl (a:Ar) (l:List Msg):Ar:=⟨a.sl,a.st,a.ow,a.cap,l,a.dir,a.ep,a.ck,a.ni⟩
theorem Wb14.dead {w W:World} {p r c:Nat} {a:Ar} {Y:Ax} {A:Option Addr} {l:List Msg} (h:Wb14 w p r a Y W) (hl:Ls W W.heap.size (.slice A l.length c) l) (hn:Nw (r+1) A):Wb14 w p r (a.setDl l) ⟨Y.A,Y.c,Y.q,Y.A2,Y.c2,A,c,Y.D⟩ ((W.setCell ⟨p,3,none⟩ (.int .i64 a.cap)).setCell ⟨p,4,none⟩ (.slice A l.length c)):=by
 have hne:=h.ne
 have ho:AOff a Y p:=h.nw.off (show p<r+1 by omega)
 have hr:=(h.ar.offp (q:=⟨p,3,none⟩) ho (.int .i64 a.cap)).offp (q:=⟨p,4,none⟩) ho (.slice A l.length c)
 have hl2:=(hl.offp (p:=⟨p,3,none⟩) (offb_nw hn (by show p<r+1;omega)) (.int .i64 a.cap)).offp (p:=⟨p,4,none⟩) (offb_nw hn (by show p<r+1;omega)) (.slice A l.length c)
 exact ⟨h.pb.setDead a.cap l A c,(h.rb.other (x:=⟨p,3,none⟩) (show p≠r by omega) _).other (x:=⟨p,4,none⟩) (show p≠r by omega) _,AR.more (B:=W.heap.size) ⟨hr.ql,hr.so,hr.sr,hr.tl,hl2,hr.dr⟩ (by simp),⟨h.nw.n1,h.nw.ns,h.nw.n2,hn,h.nw.n4⟩,h.ne,(h.bel.setCell (p:=⟨p,3,none⟩) hne.1 _).setCell (p:=⟨p,4,none⟩) hne.1 _⟩
theorem astoredead_yes (a:Ar) (Y:Ax) (t:Int) (cap:Int) (A:Option Addr) (c:Nat) (l:List Msg) (w:World) (har:AR w w.heap.size a Y) (hf:a.Few) (hl:Ls w w.heap.size (.slice A l.length c) l) (hE:owE a (a.sl.length:Int) t=0) (hV:va8 cap l=0) (hC:cap=a.cap) (hb3:l.length<=1000):Calls Tryz.prog 118 #[av a Y,.int .i64 t,.agg #[.int .i64 cap,.slice A l.length c]] w (AE w (a.setDl l) 0):=by
 obtain ⟨p,hp⟩:∃ p,p=w.heap.size:=⟨_,rfl⟩
 obtain ⟨q,hq⟩:∃ q,q=w.heap.size+1:=⟨_,rfl⟩
 obtain ⟨r,hr⟩:∃ r,r=w.heap.size+2:=⟨_,rfl⟩
 have H0:=Lh (show Ci12 w p r a Y _ from by rw [hr,hp];exact Ci12.start3 har (.cells #[.int .i64 cap,.slice A l.length c] 29))
 have HQ0:=Lh (show Rb (((w.alloc (.cells #[.slice Y.A a.sl.length Y.c,.slice Y.A2 a.st.length Y.c2,.int .i64 a.ow,.int .i64 a.cap,.slice Y.A3 a.dl.length Y.c3,.int .i64 a.dir.vn,.slice Y.D.A a.dir.l.length Y.D.c,.slice Y.D.A2 a.dir.F.length Y.D.c2,.int .i64 a.ep,.int .i64 a.ck,.int .i64 a.ni] 36)).alloc (.cells #[.int .i64 cap,.slice A l.length c] 29)).alloc (.cells #[.slice none 0 0,.slice none 0 0,.int .i64 0,.int .i64 0,.slice none 0 0,.int .i64 0,.slice none 0 0,.slice none 0 0,.int .i64 0,.int .i64 0,.int .i64 0] 36)) q [.int .i64 cap,.slice A l.length c] from by
  have h1:=Rb.start (w.alloc (.cells #[.slice Y.A a.sl.length Y.c,.slice Y.A2 a.st.length Y.c2,.int .i64 a.ow,.int .i64 a.cap,.slice Y.A3 a.dl.length Y.c3,.int .i64 a.dir.vn,.slice Y.D.A a.dir.l.length Y.D.c,.slice Y.D.A2 a.dir.F.length Y.D.c2,.int .i64 a.ep,.int .i64 a.ck,.int .i64 a.ni] 36)) [.int .i64 cap,.slice A l.length c] 29
  rw [show (w.alloc (.cells #[.slice Y.A a.sl.length Y.c,.slice Y.A2 a.st.length Y.c2,.int .i64 a.ow,.int .i64 a.cap,.slice Y.A3 a.dl.length Y.c3,.int .i64 a.dir.vn,.slice Y.D.A a.dir.l.length Y.D.c,.slice Y.D.A2 a.dir.F.length Y.D.c2,.int .i64 a.ep,.int .i64 a.ck,.int .i64 a.ni] 36)).heap.size=w.heap.size+1 by simp,<-hq] at h1
  exact h1.up ((Below.refl _ _).alloc (nLR _) (.cells #[.slice none 0 0,.slice none 0 0,.int .i64 0,.int .i64 0,.slice none 0 0,.int .i64 0,.slice none 0 0,.slice none 0 0,.int .i64 0,.int .i64 0,.int .i64 0] 36)))
 have HPP:=Lh (show p=w.heap.size/\q=w.heap.size+1/\r=w.heap.size+2 from ⟨hp,hq,hr⟩)
 have HDC:=Lh (fun W=>adeadcell_any a Y W)
 have HLK:=Lh (fun W (k' : Below w.heap.size w W)=>aownererr_any a Y (a.sl.length:Int) t W ((har.below k').more k'.size) hf)
 rw [hE] at HLK
 have HVL:=Lh (fun W (k' : Below w.heap.size w W)=>va8_any cap A l.length c l W ((hl.below k').more k'.size))
 rw [hV] at HVL
 have HCL:=Lh (fun W (k:Ci12 w p r a Y W)=>aclone_any a Y W (k.ar.more k.bel.size) hf)
 have HCD:=Lh (fun W (k' : Below w.heap.size w W)=>cdead_any cap A c l W ((hl.below k').more k'.size) hb3)
 have HCC:=Lh hC
 obtain ⟨B,hB⟩:∃ B,B=a.setDl l:=⟨_,rfl⟩
 rw [<-hB]
 have HBB:=Lh hB
 clear hp hq hr har hf hl hE hV hC hb3 hB
 go_enter Tryz.func118,Tryz.ntmps118
 go_upto_region 1 with (fail)
 rw [<-HPP.out.2.2,<-HPP.out.2.1,<-HPP.out.1]
 generalize ((w.alloc (.cells #[.slice Y.A a.sl.length Y.c,.slice Y.A2 a.st.length Y.c2,.int .i64 a.ow,.int .i64 a.cap,.slice Y.A3 a.dl.length Y.c3,.int .i64 a.dir.vn,.slice Y.D.A a.dir.l.length Y.D.c,.slice Y.D.A2 a.dir.F.length Y.D.c2,.int .i64 a.ep,.int .i64 a.ck,.int .i64 a.ni] 36)).alloc (.cells #[.int .i64 cap,.slice A l.length c] 29)).alloc (.cells #[.slice none 0 0,.slice none 0 0,.int .i64 0,.int .i64 0,.slice none 0 0,.int .i64 0,.slice none 0 0,.slice none 0 0,.int .i64 0,.int .i64 0,.int .i64 0] 36)=w1 at*
 have HSK:=Lh (show ∀ W,Below w1.heap.size w1 W->K11 p a Y W from fun W h=>(H0.out.pb.up h).k)
 have HB0:=Lh (Below.refl w1.heap.size w1)
 have HDC4:=Lh (fun W (h:Below w1.heap.size w1 W)=>(HDC.out W).mono fun e w' h1=>show e=.returned (.int .i64 (a.sl.length:Int))/\Below w1.heap.size w1 w' from ⟨h1.1,h.trans (h1.2.mono h.size)⟩)
 have HLK4:=Lh (fun W (h:Below w1.heap.size w1 W)=>(HLK.out W (H0.out.bel.trans (h.mono H0.out.bel.size))).mono fun e w' h1=>show e=.returned (.int .i64 0)/\Below w1.heap.size w1 w' from ⟨h1.1,h.trans (h1.2.mono h.size)⟩)
 clear HDC HLK
 go_cut [8] (fun s8 wx=>s8=.int .i64 0/\Below w1.heap.size w1 wx)
 case first=>
  go_region_held3 (fun W=>K11 p a Y W)
   ((refine HSK.out _ ?_;repeat' (first | with_reducible exact HB0.out | with_reducible exact HB4.out | with_reducible exact HB5.out | with_reducible refine bdr ?_ | exact nLR _ | (simp;done) | (simp;omega))))
   (first | (go_at_call 136;(with_reducible refine (HDC4.out _ ?hbel).mono ?_);(case hbel=>(repeat' (first | with_reducible exact HB0.out | with_reducible refine bdr ?_)));rintro e w4 ⟨rfl,hb⟩;have HB4:=Lh hb;clear hb) | (go_at_call 135;(with_reducible refine (HLK4.out _ ?hbel).mono ?_);(case hbel=>(repeat' (first | with_reducible exact HB4.out | with_reducible refine bdr ?_)));rintro e w5 ⟨rfl,hb⟩;have HB5:=Lh hb;clear hb))
  all_goals
   go_wp2_with fail
   go_meet
   exact ⟨rfl,HB5.out⟩
 case rest=>
  clear HSK HB0 HDC4 HLK4
  obtain ⟨rfl,hb⟩:=hcut
  have H1:=Lh (H0.out.below hb)
  have HQ1:=Lh (HQ0.out.up hb)
  clear hb H0 HQ0
  have s0:=HQ1.out.c 0 _ rfl
  have s1:=HQ1.out.c 1 _ rfl
  have sl:=HQ1.out.lt
  go_wp2_with fail
  clear s0 s1 sl
  refine (HVL.out _ H1.out.bel).mono ?_
  rintro e w2' ⟨rfl,hb⟩
  replace H1:=Lh (H1.out.below hb)
  replace HQ1:=Lh (HQ1.out.up hb)
  clear hb HVL
  have s0:=HQ1.out.c 0 _ rfl
  have s1:=HQ1.out.c 1 _ rfl
  have sl:=HQ1.out.lt
  obtain ⟨y0,y1,y2,y3,y4,y5,y6,y7,y8,y9,y10⟩:=H1.out.pb.k
  have yl:=H1.out.pb.lt
  have hcc:(cap != a.cap)=false:=by simp [HCC.out]
  go_wp2_with fail
  clear y0 y1 y2 y3 y4 y5 y6 y7 y8 y9 y10 yl s0 s1 sl hcc
  refine (HCL.out _ H1.out).mono ?_
  rintro e w3 ⟨Z,b,rfl,hnw,har,hb,-,-,-,-,-,-,-⟩
  have HC:=Lh (show Wb14 w p r a Z (((((((((((w3.setCell ⟨p,0,none⟩ (.slice Z.A a.sl.length Z.c)).setCell ⟨p,1,none⟩ (.slice Z.A2 a.st.length Z.c2)).setCell ⟨p,2,none⟩ (.int .i64 a.ow)).setCell ⟨p,3,none⟩ (.int .i64 a.cap)).setCell ⟨p,4,none⟩ (.slice Z.A3 a.dl.length Z.c3)).setCell ⟨p,5,none⟩ (.int .i64 a.dir.vn)).setCell ⟨p,6,none⟩ (.slice Z.D.A a.dir.l.length Z.D.c)).setCell ⟨p,7,none⟩ (.slice Z.D.A2 a.dir.F.length Z.D.c2)).setCell ⟨p,8,none⟩ (.int .i64 a.ep)).setCell ⟨p,9,none⟩ (.int .i64 a.ck)).setCell ⟨p,10,none⟩ (.int .i64 a.ni)) from Wb14.of H1.out hb hnw har)
  have H2:=Lh (H1.out.below hb)
  have HQ2:=Lh (show Rb (((((((((((w3.setCell ⟨p,0,none⟩ (.slice Z.A a.sl.length Z.c)).setCell ⟨p,1,none⟩ (.slice Z.A2 a.st.length Z.c2)).setCell ⟨p,2,none⟩ (.int .i64 a.ow)).setCell ⟨p,3,none⟩ (.int .i64 a.cap)).setCell ⟨p,4,none⟩ (.slice Z.A3 a.dl.length Z.c3)).setCell ⟨p,5,none⟩ (.int .i64 a.dir.vn)).setCell ⟨p,6,none⟩ (.slice Z.D.A a.dir.l.length Z.D.c)).setCell ⟨p,7,none⟩ (.slice Z.D.A2 a.dir.F.length Z.D.c2)).setCell ⟨p,8,none⟩ (.int .i64 a.ep)).setCell ⟨p,9,none⟩ (.int .i64 a.ck)).setCell ⟨p,10,none⟩ (.int .i64 a.ni)) q [.int .i64 cap,.slice A l.length c] from (HQ1.out.up hb).set11 (show p≠q by have:=HPP.out;omega) a Z)
  clear hnw har hb H1 HQ1 HCL
  obtain ⟨y0,y1,y2,y3,y4,y5,y6,y7,y8,y9,y10⟩:=H2.out.pb.k
  have yl:=H2.out.pb.lt
  obtain ⟨f0,f1,f2,f3,f4,f5,f6,f7,f8,f9,f10⟩:=H2.out.pb.free
  go_upto_region 10 with (fail)
  clear y0 y1 y2 y3 y4 y5 y6 y7 y8 y9 y10 yl f0 f1 f2 f3 f4 f5 f6 f7 f8 f9 f10 H2
  generalize ((((((((((w3.setCell ⟨p,0,none⟩ (.slice Z.A a.sl.length Z.c)).setCell ⟨p,1,none⟩ (.slice Z.A2 a.st.length Z.c2)).setCell ⟨p,2,none⟩ (.int .i64 a.ow)).setCell ⟨p,3,none⟩ (.int .i64 a.cap)).setCell ⟨p,4,none⟩ (.slice Z.A3 a.dl.length Z.c3)).setCell ⟨p,5,none⟩ (.int .i64 a.dir.vn)).setCell ⟨p,6,none⟩ (.slice Z.D.A a.dir.l.length Z.D.c)).setCell ⟨p,7,none⟩ (.slice Z.D.A2 a.dir.F.length Z.D.c2)).setCell ⟨p,8,none⟩ (.int .i64 a.ep)).setCell ⟨p,9,none⟩ (.int .i64 a.ck)).setCell ⟨p,10,none⟩ (.int .i64 a.ni)=w4 at*
  have s0:=HQ2.out.c 0 _ rfl
  have s1:=HQ2.out.c 1 _ rfl
  have sl:=HQ2.out.lt
  go_wp2_with fail
  clear s0 s1 sl
  refine (HCD.out _ HC.out.bel).mono ?_
  rintro e w5 ⟨A',c',rfl,hn,hl,hb⟩
  have HX:=Lh (show Wb14 w p r B ⟨Z.A,Z.c,Z.q,Z.A2,Z.c2,A',c',Z.D⟩ ((w5.setCell ⟨p,3,none⟩ (.int .i64 cap)).setCell ⟨p,4,none⟩ (.slice A' l.length c')) from by
   rw [HBB.out,HCC.out]
   exact (HC.out.below hb).dead hl (nw_low hn HC.out.rb.lt))
  have H5:=Lh (HC.out.below hb)
  clear hn hl hb HC HCD HBB HQ2
  obtain ⟨y0,y1,y2,y3,y4,y5,y6,y7,y8,y9,y10⟩:=H5.out.pb.k
  have yl:=H5.out.pb.lt
  obtain ⟨f0,f1,f2,f3,f4,f5,f6,f7,f8,f9,f10⟩:=H5.out.pb.free
  go_upto_region 11 with (fail)
  clear y0 y1 y2 y3 y4 y5 y6 y7 y8 y9 y10 yl f0 f1 f2 f3 f4 f5 f6 f7 f8 f9 f10 H5
  generalize (w5.setCell ⟨p,3,none⟩ (.int .i64 cap)).setCell ⟨p,4,none⟩ (.slice A' l.length c')=w6 at*
  have HF:=Lh (ae_out (y:=r) (show w.heap.size<=r by have:=HX.out.ne;omega) HX.out.bel HX.out.nw (nLR _) HX.out.ar 0)
  obtain ⟨y0,y1,y2,y3,y4,y5,y6,y7,y8,y9,y10⟩:=HX.out.pb.k
  have yl:=HX.out.pb.lt
  obtain ⟨r0,r1,r2,r3,r4,r5,r6,r7,r8,r9,r10⟩:=HX.out.rb.k
  have rl:=HX.out.rb.lt
  obtain ⟨f0,f1,f2,f3,f4,f5,f6,f7,f8,f9,f10⟩:=HX.out.rb.free
  have hpr:¬p=r:=by have:=HX.out.ne;omega
  have hrp:¬r=p:=fun e=>hpr e.symm
  clear HX
  go_wp2
  exact bodyPost_ret (v:=.tuple #[av B ⟨Z.A,Z.c,Z.q,Z.A2,Z.c2,A',c',Z.D⟩,.int .i64 0]) (by simp only [results,Tryz.results118];go_simp <;> rfl) rfl HF.out
end Go.Proofs.YtkecnihgjepfeaaGreat
