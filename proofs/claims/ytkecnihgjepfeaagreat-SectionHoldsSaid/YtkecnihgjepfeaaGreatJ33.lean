/- What is proved here: parts of the proof: Jq Js Jy Jw Jx Jy2. -/
import Derived.Test.YtkecnihgjepfeaaGreatJ32
namespace Go.Proofs.YtkecnihgjepfeaaGreat
open Go.RowKit
set_option linter.unusedVariables false
set_option linter.unusedSimpArgs false
set_option maxHeartbeats 8000000
set_option maxRecDepth 20000
theorem jback_any (l:Lk) (A:Option Addr) (c:Nat) (w:World) (hs:-9<=l.tr/\l.tr<=1000000):Calls Tryz.prog 153 #[lv l A c] w (LV w (boL l) A c):=by
 have H0:=Lh (Jb.start w l A c)
 obtain ⟨p,hp⟩:∃ p,p=w.heap.size:=⟨_,rfl⟩
 obtain ⟨r,hr⟩:∃ r,r=w.heap.size+1:=⟨_,rfl⟩
 have HPP:=Lh (And.intro hp hr)
 rw [<-hr] at H0
 have H0:=Lh (show Jb w p r l zK A none c 0 _ from by rw [hp];exact H0.out)
 have hw:IntKind.i64.wrap (l.tr+1)=l.tr+1:=IntWalk.i64_in _ (by omega)
 obtain ⟨x,hx⟩:∃ x,x=l.tr+1:=⟨_,rfl⟩
 obtain ⟨y,hy⟩:∃ y,y=min x 3:=⟨_,rfl⟩
 obtain ⟨M,hM⟩:∃ M,M=boL l:=⟨_,rfl⟩
 have HM:=Lh (show M=⟨l.cs,2,l.hv,x,y⟩ from by rw [hM,hy,hx];rfl)
 rw [<-hM]
 have hw2:IntKind.i64.wrap (l.tr+1)=x:=by rw [hx];exact hw
 have hmin:min x 3=y:=hy.symm
 clear hp hr hs hM hx hw hy
 go_enter Tryz.func153,Tryz.ntmps153
 go_upto_region 1 with (fail)
 rw [<-HPP.out.2,<-HPP.out.1]
 generalize ((w.alloc (.cells #[.slice A l.cs.length c,.int .i64 l.ph,.int .i64 l.hv,.int .i64 l.tr,.int .i64 l.wt] 45)).alloc (.cells #[.slice none 0 0,.int .i64 0,.int .i64 0,.int .i64 0,.int .i64 0] 45))=w1 at*
 obtain ⟨y0,y1,y2,y3,y4⟩:=H0.out.pb.k
 have yl:=H0.out.pb.lt
 obtain ⟨f0,f1,f2,f3,f4⟩:=H0.out.pb.free
 obtain ⟨r0,r1,r2,r3,r4⟩:=H0.out.rb.k
 have rl:=H0.out.rb.lt
 obtain ⟨g0,g1,g2,g3,g4⟩:=H0.out.rb.free
 have hpr:¬p=r:=by have:=H0.out.ne;omega
 have hrp:¬r=p:=fun e=>hpr e.symm
 go_upto_region 2 with (fail)
 clear y0 y1 y2 y3 y4 yl f0 f1 f2 f3 f4 r0 r1 r2 r3 r4 rl g0 g1 g2 g3 g4 hpr hrp
 have H1:=Lh (H0.out.setT x)
 clear H0 hw2
 generalize (w1.setCell ⟨p,3,none⟩ (.int .i64 x))=w2 at*
 obtain ⟨y0,y1,y2,y3,y4⟩:=H1.out.pb.k
 have yl:=H1.out.pb.lt
 obtain ⟨f0,f1,f2,f3,f4⟩:=H1.out.pb.free
 obtain ⟨r0,r1,r2,r3,r4⟩:=H1.out.rb.k
 have rl:=H1.out.rb.lt
 obtain ⟨g0,g1,g2,g3,g4⟩:=H1.out.rb.free
 have hpr:¬p=r:=by have:=H1.out.ne;omega
 have hrp:¬r=p:=fun e=>hpr e.symm
 go_upto_region 3 with (fail)
 clear y0 y1 y2 y3 y4 yl f0 f1 f2 f3 f4 r0 r1 r2 r3 r4 rl g0 g1 g2 g3 g4 hpr hrp
 have H2:=Lh (H1.out.setW y)
 clear H1 hmin
 generalize (w2.setCell ⟨p,4,none⟩ (.int .i64 y))=w3 at*
 obtain ⟨y0,y1,y2,y3,y4⟩:=H2.out.pb.k
 have yl:=H2.out.pb.lt
 obtain ⟨f0,f1,f2,f3,f4⟩:=H2.out.pb.free
 obtain ⟨r0,r1,r2,r3,r4⟩:=H2.out.rb.k
 have rl:=H2.out.rb.lt
 obtain ⟨g0,g1,g2,g3,g4⟩:=H2.out.rb.free
 have hpr:¬p=r:=by have:=H2.out.ne;omega
 have hrp:¬r=p:=fun e=>hpr e.symm
 go_upto_region 4 with (fail)
 clear y0 y1 y2 y3 y4 yl f0 f1 f2 f3 f4 r0 r1 r2 r3 r4 rl g0 g1 g2 g3 g4 hpr hrp
 have H3:=Lh (H2.out.setP 2)
 rw [<-HM.out] at H3
 clear H2
 generalize (w3.setCell ⟨p,1,none⟩ (.int .i64 2))=w4 at*
 have HF:=Lh H3.out.out
 obtain ⟨y0,y1,y2,y3,y4⟩:=H3.out.pb.k
 have yl:=H3.out.pb.lt
 obtain ⟨f0,f1,f2,f3,f4⟩:=H3.out.pb.free
 obtain ⟨r0,r1,r2,r3,r4⟩:=H3.out.rb.k
 have rl:=H3.out.rb.lt
 obtain ⟨g0,g1,g2,g3,g4⟩:=H3.out.rb.free
 have hpr:¬p=r:=by have:=H3.out.ne;omega
 have hrp:¬r=p:=fun e=>hpr e.symm
 clear H3
 go_wp2
 exact bodyPost_ret (v:=lv M A c) (by simp only [results,Tryz.results153];go_simp <;> rfl) rfl HF.out
theorem Fl.alloc2 {w:World} {v:Value} {l:List Int} (h:Fl w w.heap.size v l) (o:Obj):Fl (w.alloc o) (w.alloc o).heap.size v l:=h.up ((Below.refl _ _).alloc (nLR _) o)
theorem le_out {w W:World} {r:Nat} {l:Lk} {A:Option Addr} {c:Nat} (hr:w.heap.size<=r) (hb:Below w.heap.size w W) (hn:Nw (r+1) A) (hl:Fl W W.heap.size (.slice A l.cs.length c) l.cs) (x:Int):LE w l x (.returned (.tuple #[lv l A c,.int .i64 x])) (set5 W r l A c):=
 ⟨A,c,rfl,nw_low hn (by omega),(hl.set5 (offb_nw hn (Nat.lt_succ_self r)) l A c).more (by rw [set5_size];exact nLR _),set5_below hb hr l A c⟩
theorem jfree_any (l:Lk) (A:Option Addr) (c:Nat) (w:World) (hf:Fl w w.heap.size (.slice A l.cs.length c) l.cs) (hs:l.cs.length<=9):Calls Tryz.prog 55 #[lv l A c] w (LE w (frL l) (frE l)):=by
 have H0:=Lh (Jb.start w l A c)
 have HF0:=Lh ((hf.alloc2 (.cells #[.slice A l.cs.length c,.int .i64 l.ph,.int .i64 l.hv,.int .i64 l.tr,.int .i64 l.wt] 45)).alloc2 (.cells #[.slice none 0 0,.int .i64 0,.int .i64 0,.int .i64 0,.int .i64 0] 45))
 have HCL:=Lh (fun W (k:Fl W W.heap.size (.slice A l.cs.length c) l.cs)=>(niclone_any A l.cs.length c l.cs W k (by omega)).mono fun _ _ h=>niclp_flv h)
 obtain ⟨p,hp⟩:∃ p,p=w.heap.size:=⟨_,rfl⟩
 obtain ⟨r,hr⟩:∃ r,r=w.heap.size+1:=⟨_,rfl⟩
 have HPP:=Lh (And.intro hp hr)
 rw [<-hr] at H0
 have H0:=Lh (show Jb w p r l zK A none c 0 _ from by rw [hp];exact H0.out)
 obtain ⟨M,hM⟩:∃ M,M=frL l:=⟨_,rfl⟩
 obtain ⟨E,hE⟩:∃ E,E=frE l:=⟨_,rfl⟩
 rw [<-hM,<-hE]
 by_cases h3:l.ph=3
 ·have HM:=Lh (show M=⟨l.cs,4,l.hv,l.tr,l.wt⟩ from by rw [hM];exact if_pos h3)
  have HE:=Lh (show E=0 from by rw [hE];exact if_pos h3)
  have hb:(l.ph != 3)=false:=by simp [h3]
  clear hp hr hs hM hE h3 hf
  go_enter Tryz.func55,Tryz.ntmps55
  go_upto_region 1 with (fail)
  rw [<-HPP.out.2,<-HPP.out.1]
  generalize ((w.alloc (.cells #[.slice A l.cs.length c,.int .i64 l.ph,.int .i64 l.hv,.int .i64 l.tr,.int .i64 l.wt] 45)).alloc (.cells #[.slice none 0 0,.int .i64 0,.int .i64 0,.int .i64 0,.int .i64 0] 45))=w1 at*
  obtain ⟨y0,y1,y2,y3,y4⟩:=H0.out.pb.k
  have yl:=H0.out.pb.lt
  obtain ⟨f0,f1,f2,f3,f4⟩:=H0.out.pb.free
  obtain ⟨r0,r1,r2,r3,r4⟩:=H0.out.rb.k
  have rl:=H0.out.rb.lt
  obtain ⟨g0,g1,g2,g3,g4⟩:=H0.out.rb.free
  have hpr:¬p=r:=by have:=H0.out.ne;omega
  have hrp:¬r=p:=fun e=>hpr e.symm
  go_upto_region 3 with (fail)
  clear y0 y1 y2 y3 y4 yl f0 f1 f2 f3 f4 r0 r1 r2 r3 r4 rl g0 g1 g2 g3 g4 hpr hrp
  obtain ⟨y0,-⟩:=H0.out.pb.k
  have yl:=H0.out.pb.lt
  go_wp2_with fail
  clear y0 yl hb
  refine (HCL.out _ HF0.out).mono ?_
  rintro e w2 ⟨A2,c2,rfl,hn,hl,hb⟩
  have H1:=Lh (H0.out.below hb)
  have HN:=Lh (nw_low hn (show r+1<=_ from H0.out.rb.lt))
  have HL:=Lh (hl.offb (p:=⟨p,0,none⟩) (offb_nw HN.out (by have:=H0.out.ne;show p<r+1;omega)) (.slice A2 l.cs.length c2))
  clear hn hl hb H0 HF0 HCL
  obtain ⟨y0,y1,y2,y3,y4⟩:=H1.out.pb.k
  have yl:=H1.out.pb.lt
  obtain ⟨f0,f1,f2,f3,f4⟩:=H1.out.pb.free
  obtain ⟨r0,r1,r2,r3,r4⟩:=H1.out.rb.k
  have rl:=H1.out.rb.lt
  obtain ⟨g0,g1,g2,g3,g4⟩:=H1.out.rb.free
  have hpr:¬p=r:=by have:=H1.out.ne;omega
  have hrp:¬r=p:=fun e=>hpr e.symm
  go_upto_region 4 with (fail)
  clear y0 y1 y2 y3 y4 yl f0 f1 f2 f3 f4 r0 r1 r2 r3 r4 rl g0 g1 g2 g3 g4 hpr hrp
  have H2:=Lh (H1.out.setA A2 c2)
  have HL:=Lh (HL.out.more (B':=(w2.setCell ⟨p,0,none⟩ (.slice A2 l.cs.length c2)).heap.size) (by simp))
  clear H1
  generalize (w2.setCell ⟨p,0,none⟩ (.slice A2 l.cs.length c2))=w3 at*
  obtain ⟨y0,y1,y2,y3,y4⟩:=H2.out.pb.k
  have yl:=H2.out.pb.lt
  obtain ⟨f0,f1,f2,f3,f4⟩:=H2.out.pb.free
  obtain ⟨r0,r1,r2,r3,r4⟩:=H2.out.rb.k
  have rl:=H2.out.rb.lt
  obtain ⟨g0,g1,g2,g3,g4⟩:=H2.out.rb.free
  have hpr:¬p=r:=by have:=H2.out.ne;omega
  have hrp:¬r=p:=fun e=>hpr e.symm
  go_upto_region 5 with (fail)
  clear y0 y1 y2 y3 y4 yl f0 f1 f2 f3 f4 r0 r1 r2 r3 r4 rl g0 g1 g2 g3 g4 hpr hrp
  have H3:=Lh (H2.out.setP 4)
  have HL:=Lh ((HL.out.offb (p:=⟨p,1,none⟩) (offb_nw HN.out (by have:=H2.out.ne;show p<r+1;omega)) (.int .i64 4)).more (B':=(w3.setCell ⟨p,1,none⟩ (.int .i64 4)).heap.size) (by simp))
  rw [<-HM.out] at H3
  have HL:=Lh (show Fl _ _ (.slice A2 M.cs.length c2) M.cs from by rw [HM.out];exact HL.out)
  clear H2
  generalize (w3.setCell ⟨p,1,none⟩ (.int .i64 4))=w4 at*
  have HF:=Lh (show LE w M E (.returned (.tuple #[lv M A2 c2,.int .i64 0])) (set5 w4 r M A2 c2) from by rw [HE.out];exact le_out (show w.heap.size<=r by have:=H3.out.ne;omega) H3.out.bel HN.out HL.out 0)
  obtain ⟨y0,y1,y2,y3,y4⟩:=H3.out.pb.k
  have yl:=H3.out.pb.lt
  obtain ⟨f0,f1,f2,f3,f4⟩:=H3.out.pb.free
  obtain ⟨r0,r1,r2,r3,r4⟩:=H3.out.rb.k
  have rl:=H3.out.rb.lt
  obtain ⟨g0,g1,g2,g3,g4⟩:=H3.out.rb.free
  have hpr:¬p=r:=by have:=H3.out.ne;omega
  have hrp:¬r=p:=fun e=>hpr e.symm
  clear H3 HL HN
  go_wp2
  exact bodyPost_ret (v:=.tuple #[lv M A2 c2,.int .i64 0]) (by simp only [results,Tryz.results55];go_simp <;> rfl) rfl HF.out
 ·have HM:=Lh (show M=zK from by rw [hM];exact if_neg h3)
  have HE:=Lh (show E=7 from by rw [hE];exact if_neg h3)
  have hb:(l.ph != 3)=true:=by simp [h3]
  clear hp hr hs hM hE h3 hf
  go_enter Tryz.func55,Tryz.ntmps55
  go_upto_region 1 with (fail)
  rw [<-HPP.out.2,<-HPP.out.1]
  generalize ((w.alloc (.cells #[.slice A l.cs.length c,.int .i64 l.ph,.int .i64 l.hv,.int .i64 l.tr,.int .i64 l.wt] 45)).alloc (.cells #[.slice none 0 0,.int .i64 0,.int .i64 0,.int .i64 0,.int .i64 0] 45))=w1 at*
  have HF:=Lh (show LE w M E (.returned (.tuple #[lv zK none 0,.int .i64 7])) (set5 w1 r zK none 0) from by rw [HE.out,HM.out];exact le_out (l:=zK) (show w.heap.size<=r by have:=H0.out.ne;omega) H0.out.bel (nw_none (lo:=r+1)) (Fl.nil) 7)
  obtain ⟨y0,y1,y2,y3,y4⟩:=H0.out.pb.k
  have yl:=H0.out.pb.lt
  obtain ⟨f0,f1,f2,f3,f4⟩:=H0.out.pb.free
  obtain ⟨r0,r1,r2,r3,r4⟩:=H0.out.rb.k
  have rl:=H0.out.rb.lt
  obtain ⟨g0,g1,g2,g3,g4⟩:=H0.out.rb.free
  have hpr:¬p=r:=by have:=H0.out.ne;omega
  have hrp:¬r=p:=fun e=>hpr e.symm
  clear H0 HF0 HCL
  go_wp2
  exact bodyPost_ret (v:=.tuple #[.agg #[.slice none 0 0,.int .i64 0,.int .i64 0,.int .i64 0,.int .i64 0],.int .i64 7]) (by simp only [results,Tryz.results55];go_simp <;> rfl) rfl HF.out
end Go.Proofs.YtkecnihgjepfeaaGreat
/- Plain: a box of an arena and one of a locker, and the results' boxes. -/
namespace Go.Proofs.YtkecnihgjepfeaaGreat
open Go.RowKit
set_option linter.unusedVariables false
set_option linter.unusedSimpArgs false
set_option maxHeartbeats 8000000
set_option maxRecDepth 20000
structure Js (w:World) (p q r s:Nat) (a:Ar) (Y:Ax) (l:Lk) (A:Option Addr) (c:Nat) (W:World):Prop where
 pb:QB W p a Y
 qb:LB W q l A c
 rb:QB W r zA zAx
 sb:LB W s zK none 0
 ne:w.heap.size<=p/\p<q/\q<r/\r<s
 ar:AR W W.heap.size a Y
 ao:AOff a Y p/\AOff a Y q/\AOff a Y r/\AOff a Y s
 fl:Fl W W.heap.size (.slice A l.cs.length c) l.cs
 fo:OffB p l.cs.length A/\OffB q l.cs.length A/\OffB r l.cs.length A/\OffB s l.cs.length A
 bel:Below w.heap.size w W
section
variable {w W W' : World} {p q r s:Nat} {a b:Ar} {Y Z:Ax} {l m:Lk} {A A' : Option Addr} {c c' : Nat}
theorem Js.below (h:Js w p q r s a Y l A c W) (hb:Below W.heap.size W W'):Js w p q r s a Y l A c W':=
 ⟨h.pb.up hb,h.qb.up hb,h.rb.up hb,h.sb.up hb,h.ne,h.ar.up hb,h.ao,h.fl.up hb,h.fo,h.bel.trans (hb.mono h.bel.size)⟩
theorem Js.drew (h:Js w p q r s a Y l A c W):Js w p q r s a Y l A c W.drew:=h.below (Below.refl _ _).drew
theorem Js.start (har:AR w w.heap.size a Y) (hf:Fl w w.heap.size (.slice A l.cs.length c) l.cs):Js w w.heap.size (w.heap.size+1) (w.heap.size+2) (w.heap.size+3) a Y l A c ((((w.alloc (.cells #[.slice Y.A a.sl.length Y.c,.slice Y.A2 a.st.length Y.c2,.int .i64 a.ow,.int .i64 a.cap,.slice Y.A3 a.dl.length Y.c3,.int .i64 a.dir.vn,.slice Y.D.A a.dir.l.length Y.D.c,.slice Y.D.A2 a.dir.F.length Y.D.c2,.int .i64 a.ep,.int .i64 a.ck,.int .i64 a.ni] 36)).alloc (.cells #[.slice A l.cs.length c,.int .i64 l.ph,.int .i64 l.hv,.int .i64 l.tr,.int .i64 l.wt] 45)).alloc (.cells #[.slice none 0 0,.slice none 0 0,.int .i64 0,.int .i64 0,.slice none 0 0,.int .i64 0,.slice none 0 0,.slice none 0 0,.int .i64 0,.int .i64 0,.int .i64 0] 36)).alloc (.cells #[.slice none 0 0,.int .i64 0,.int .i64 0,.int .i64 0,.int .i64 0] 45)):=by
 have b1:=(Below.refl w.heap.size w).alloc (nLR _) (.cells #[.slice Y.A a.sl.length Y.c,.slice Y.A2 a.st.length Y.c2,.int .i64 a.ow,.int .i64 a.cap,.slice Y.A3 a.dl.length Y.c3,.int .i64 a.dir.vn,.slice Y.D.A a.dir.l.length Y.D.c,.slice Y.D.A2 a.dir.F.length Y.D.c2,.int .i64 a.ep,.int .i64 a.ck,.int .i64 a.ni] 36)
 have b2:=b1.alloc (by simp) (.cells #[.slice A l.cs.length c,.int .i64 l.ph,.int .i64 l.hv,.int .i64 l.tr,.int .i64 l.wt] 45)
 have b3:=b2.alloc (by simp;omega) (.cells #[.slice none 0 0,.slice none 0 0,.int .i64 0,.int .i64 0,.slice none 0 0,.int .i64 0,.slice none 0 0,.slice none 0 0,.int .i64 0,.int .i64 0,.int .i64 0] 36)
 have b4:=b3.alloc (by simp;omega) (.cells #[.slice none 0 0,.int .i64 0,.int .i64 0,.int .i64 0,.int .i64 0] 45)
 have e1:(w.alloc (.cells #[.slice Y.A a.sl.length Y.c,.slice Y.A2 a.st.length Y.c2,.int .i64 a.ow,.int .i64 a.cap,.slice Y.A3 a.dl.length Y.c3,.int .i64 a.dir.vn,.slice Y.D.A a.dir.l.length Y.D.c,.slice Y.D.A2 a.dir.F.length Y.D.c2,.int .i64 a.ep,.int .i64 a.ck,.int .i64 a.ni] 36)).heap.size=w.heap.size+1:=by simp
 have e2:((w.alloc (.cells #[.slice Y.A a.sl.length Y.c,.slice Y.A2 a.st.length Y.c2,.int .i64 a.ow,.int .i64 a.cap,.slice Y.A3 a.dl.length Y.c3,.int .i64 a.dir.vn,.slice Y.D.A a.dir.l.length Y.D.c,.slice Y.D.A2 a.dir.F.length Y.D.c2,.int .i64 a.ep,.int .i64 a.ck,.int .i64 a.ni] 36)).alloc (.cells #[.slice A l.cs.length c,.int .i64 l.ph,.int .i64 l.hv,.int .i64 l.tr,.int .i64 l.wt] 45)).heap.size=w.heap.size+2:=by simp
 have e3:(((w.alloc (.cells #[.slice Y.A a.sl.length Y.c,.slice Y.A2 a.st.length Y.c2,.int .i64 a.ow,.int .i64 a.cap,.slice Y.A3 a.dl.length Y.c3,.int .i64 a.dir.vn,.slice Y.D.A a.dir.l.length Y.D.c,.slice Y.D.A2 a.dir.F.length Y.D.c2,.int .i64 a.ep,.int .i64 a.ck,.int .i64 a.ni] 36)).alloc (.cells #[.slice A l.cs.length c,.int .i64 l.ph,.int .i64 l.hv,.int .i64 l.tr,.int .i64 l.wt] 45)).alloc (.cells #[.slice none 0 0,.slice none 0 0,.int .i64 0,.int .i64 0,.slice none 0 0,.int .i64 0,.slice none 0 0,.slice none 0 0,.int .i64 0,.int .i64 0,.int .i64 0] 36)).heap.size=w.heap.size+3:=by simp
 have k1:=LB.start (w.alloc (.cells #[.slice Y.A a.sl.length Y.c,.slice Y.A2 a.st.length Y.c2,.int .i64 a.ow,.int .i64 a.cap,.slice Y.A3 a.dl.length Y.c3,.int .i64 a.dir.vn,.slice Y.D.A a.dir.l.length Y.D.c,.slice Y.D.A2 a.dir.F.length Y.D.c2,.int .i64 a.ep,.int .i64 a.ck,.int .i64 a.ni] 36)) l A c 45
 have k2:=QB.start ((w.alloc (.cells #[.slice Y.A a.sl.length Y.c,.slice Y.A2 a.st.length Y.c2,.int .i64 a.ow,.int .i64 a.cap,.slice Y.A3 a.dl.length Y.c3,.int .i64 a.dir.vn,.slice Y.D.A a.dir.l.length Y.D.c,.slice Y.D.A2 a.dir.F.length Y.D.c2,.int .i64 a.ep,.int .i64 a.ck,.int .i64 a.ni] 36)).alloc (.cells #[.slice A l.cs.length c,.int .i64 l.ph,.int .i64 l.hv,.int .i64 l.tr,.int .i64 l.wt] 45)) zA zAx 36
 have k3:=LB.start (((w.alloc (.cells #[.slice Y.A a.sl.length Y.c,.slice Y.A2 a.st.length Y.c2,.int .i64 a.ow,.int .i64 a.cap,.slice Y.A3 a.dl.length Y.c3,.int .i64 a.dir.vn,.slice Y.D.A a.dir.l.length Y.D.c,.slice Y.D.A2 a.dir.F.length Y.D.c2,.int .i64 a.ep,.int .i64 a.ck,.int .i64 a.ni] 36)).alloc (.cells #[.slice A l.cs.length c,.int .i64 l.ph,.int .i64 l.hv,.int .i64 l.tr,.int .i64 l.wt] 45)).alloc (.cells #[.slice none 0 0,.slice none 0 0,.int .i64 0,.int .i64 0,.slice none 0 0,.int .i64 0,.slice none 0 0,.slice none 0 0,.int .i64 0,.int .i64 0,.int .i64 0] 36)) zK none 0 45
 rw [e1] at k1
 rw [e2] at k2
 rw [e3] at k3
 have o:=fun p hp=>har.offs (p:=p) hp
 have g:=fun p hp=>rd_off (p:=p) hf.rd hp
 exact ⟨(((QB.start w a Y _).alloc _).alloc _).alloc _,(k1.alloc _).alloc _,k2.alloc _,k3,by omega,har.up b4,⟨o _ (by omega),o _ (by omega),o _ (by omega),o _ (by omega)⟩,hf.up b4,⟨g _ (by omega),g _ (by omega),g _ (by omega),g _ (by omega)⟩,b4⟩
theorem QB.set11o (h:QB W q a Y) (hp:p≠q) (b:Ar) (Z:Ax):QB (set11 W p b Z) q a Y:=
 ((((((((((h.other (x:=⟨p,0,none⟩) hp _).other (x:=⟨p,1,none⟩) hp _).other (x:=⟨p,2,none⟩) hp _).other (x:=⟨p,3,none⟩) hp _).other (x:=⟨p,4,none⟩) hp _).other (x:=⟨p,5,none⟩) hp _).other (x:=⟨p,6,none⟩) hp _).other (x:=⟨p,7,none⟩) hp _).other (x:=⟨p,8,none⟩) hp _).other (x:=⟨p,9,none⟩) hp _).other (x:=⟨p,10,none⟩) hp _
theorem Js.setA (h:Js w p q r s a Y l A c W) (hn:Z.nw (s+1)) (har:AR W W.heap.size b Z):Js w p q r s b Z l A c (set11 W p b Z):=by
 have hne:=h.ne
 exact ⟨h.pb.set b Z,h.qb.set11 (by omega) b Z,h.rb.set11o (by omega) b Z,h.sb.set11 (by omega) b Z,h.ne,(har.set11 (hn.off (by omega)) b Z).more (by rw [set11_size];exact nLR _),⟨hn.off (by omega),hn.off (by omega),hn.off (by omega),hn.off (by omega)⟩,(h.fl.set11 h.fo.1 b Z).more (by rw [set11_size];exact nLR _),h.fo,set11_below h.bel h.ne.1 b Z⟩
theorem Js.setC (h:Js w p q r s a Y l A c W) {j:Nat} {v:Value} (hc:m.cs=l.cs) (hq:LB (W.setCell ⟨q,j,none⟩ v) q m A c):Js w p q r s a Y m A c (W.setCell ⟨q,j,none⟩ v):=by
 have hne:=h.ne
 exact ⟨h.pb.other (x:=⟨q,j,none⟩) (show q≠p by omega) v,hq,h.rb.other (x:=⟨q,j,none⟩) (show q≠r by omega) v,h.sb.other (x:=⟨q,j,none⟩) (show q≠s by omega) v,h.ne,(h.ar.offp (q:=⟨q,j,none⟩) h.ao.2.1 v).more (by simp),h.ao,by rw [hc];exact (h.fl.offb (p:=⟨q,j,none⟩) h.fo.2.1 v).more (by simp),by rw [hc];exact h.fo,h.bel.setCell (p:=⟨q,j,none⟩) (by show w.heap.size<=q;omega) v⟩
theorem Js.setL (h:Js w p q r s a Y l A c W) (hn:Nw (s+1) A') (hf:Fl W W.heap.size (.slice A' l.cs.length c') l.cs):Js w p q r s a Y l A' c' (W.setCell ⟨q,0,none⟩ (.slice A' l.cs.length c')):=by
 have hne:=h.ne
 exact ⟨h.pb.other (x:=⟨q,0,none⟩) (show q≠p by omega) _,h.qb.setA A' c',h.rb.other (x:=⟨q,0,none⟩) (show q≠r by omega) _,h.sb.other (x:=⟨q,0,none⟩) (show q≠s by omega) _,h.ne,(h.ar.offp (q:=⟨q,0,none⟩) h.ao.2.1 _).more (by simp),h.ao,(hf.offb (p:=⟨q,0,none⟩) (offb_nw hn (by show q<s+1;omega)) _).more (by simp),⟨offb_nw hn (by omega),offb_nw hn (by omega),offb_nw hn (by omega),offb_nw hn (by omega)⟩,h.bel.setCell (p:=⟨q,0,none⟩) (by show w.heap.size<=q;omega) _⟩
theorem Js.putL (h:Js w p q r s a Y l A c W) (ho:OffB p m.cs.length A'/\OffB q m.cs.length A'/\OffB r m.cs.length A'/\OffB s m.cs.length A') (hf:Fl W W.heap.size (.slice A' m.cs.length c') m.cs):Js w p q r s a Y m A' c' (set5 W q m A' c'):=by
 have hne:=h.ne
 exact ⟨h.pb.set5 (by omega) m A' c',h.qb.set m A' c',h.rb.set5 (by omega) m A' c',(h.sb.other (x:=⟨q,0,none⟩) (show q≠s by omega) _).other (x:=⟨q,1,none⟩) (show q≠s by omega) _ |>.other (x:=⟨q,2,none⟩) (show q≠s by omega) _ |>.other (x:=⟨q,3,none⟩) (show q≠s by omega) _ |>.other (x:=⟨q,4,none⟩) (show q≠s by omega) _,h.ne,(h.ar.set5 h.ao.2.1 m A' c').more (by rw [set5_size];exact nLR _),h.ao,(hf.set5 ho.2.1 m A' c').more (by rw [set5_size];exact nLR _),ho,set5_below h.bel (by omega) m A' c'⟩
theorem so_out {A0:Option Addr} {x:Int} (hr:w.heap.size<=r) (hs:w.heap.size<=s) (hb:Below w.heap.size w W) (hy:Y.nw w.heap.size) (ho:AOff a Y r/\AOff a Y s) (har:AR W W.heap.size a Y) (hn:∀ lo,Nw lo A0->Nw lo A) (hf:Fl W W.heap.size (.slice A l.cs.length c) l.cs) (hof:OffB r l.cs.length A/\OffB s l.cs.length A):SE13o A0 w a l x (.returned (.tuple #[av a Y,lv l A c,.int .i64 x])) (Go.Proofs.YtkecnihgjepfeaaGreat.set5 (Go.Proofs.YtkecnihgjepfeaaGreat.set11 W r a Y) s l A c):=
 ⟨Y,A,c,rfl,hy,hn,((har.set11 ho.1 a Y).set5 ho.2 l A c).more (by rw [set5_size,set11_size];exact nLR _),((hf.set11 hof.1 a Y).set5 hof.2 l A c).more (by rw [set5_size,set11_size];exact nLR _),set5_below (set11_below hb hr a Y) hs l A c⟩
theorem se13_out {x:Int} (hr:w.heap.size<=r) (hs:w.heap.size<=s) (hb:Below w.heap.size w W) (hy:Y.nw w.heap.size) (ho:AOff a Y r/\AOff a Y s) (har:AR W W.heap.size a Y) (hn:Nw w.heap.size A) (hf:Fl W W.heap.size (.slice A l.cs.length c) l.cs) (hof:OffB r l.cs.length A/\OffB s l.cs.length A):SE13 w a l x (.returned (.tuple #[av a Y,lv l A c,.int .i64 x])) (Go.Proofs.YtkecnihgjepfeaaGreat.set5 (Go.Proofs.YtkecnihgjepfeaaGreat.set11 W r a Y) s l A c):=
 ⟨Y,A,c,rfl,hy,hn,((har.set11 ho.1 a Y).set5 ho.2 l A c).more (by rw [set5_size,set11_size];exact nLR _),((hf.set11 hof.1 a Y).set5 hof.2 l A c).more (by rw [set5_size,set11_size];exact nLR _),set5_below (set11_below hb hr a Y) hs l A c⟩
theorem SE13o.drew {A0:Option Addr} {x:Int} {e:Ending} (h:SE13o A0 w a l x e W):SE13o A0 w a l x e W.drew:=by
 obtain ⟨Y,A',c',rfl,h1,h2,h3,h4,h5⟩:=h
 have hd:=(Below.refl W.heap.size W).drew
 exact ⟨Y,A',c',rfl,h1,h2,h3.up hd,h4.up hd,h5.trans (hd.mono h5.size)⟩
theorem aoff_z (p:Nat):AOff zA zAx p:=(zAx_nw (p+1)).off (Nat.lt_succ_self p)
theorem offb_0 (p:Nat) (A:Option Addr):OffB p 0 A:=fun h=>absurd h (Nat.lt_irrefl 0)
abbrev C16 (p q:Nat) (a:Ar) (Y:Ax) (l:Lk) (A:Option Addr) (c:Nat) (W:World):Prop:=K11 p a Y W/\K5l W q l A c
theorem Js.cl (h:Js w p q r s a Y l A c W):C16 p q a Y l A c W:=⟨h.pb.k,h.qb.k⟩
end
end Go.Proofs.YtkecnihgjepfeaaGreat
namespace Go.Proofs.YtkecnihgjepfeaaGreat
open Go.RowKit
set_option linter.unusedVariables false
set_option linter.unusedSimpArgs false
set_option maxHeartbeats 8000000
set_option maxRecDepth 20000
structure Tw13 (w:World) (p q:Nat) (l:Lk) (A A' : Option Addr) (c c' : Nat) (W:World):Prop where
 a:LB W p l A c
 b:LB W q l A' c'
 ra:Fl W W.heap.size (.slice A l.cs.length c) l.cs
 rb:Fl W W.heap.size (.slice A' l.cs.length c') l.cs
 bel:Below w.heap.size w W
section
variable {w W W' : World} {p q:Nat} {l:Lk} {A A' : Option Addr} {c c' : Nat}
end
theorem rowner12_any (a:Ar) (Y:Ax) (n:Nat) (w:World) (har:AR w w.heap.size a Y) (hn:n<=a.sl.length):Calls Tryz.prog 14 #[av a Y,.int .i64 (n:Int)] w fun e w'=>e=.returned (.int .i64 (a.own n))/\Below w.heap.size w w':=by
 have HB:=Lh (QB.start w a Y 36)
 have HW:=Lh ((Below.refl w.heap.size w).alloc (nLR _) (.cells #[.slice Y.A a.sl.length Y.c,.slice Y.A2 a.st.length Y.c2,.int .i64 a.ow,.int .i64 a.cap,.slice Y.A3 a.dl.length Y.c3,.int .i64 a.dir.vn,.slice Y.D.A a.dir.l.length Y.D.c,.slice Y.D.A2 a.dir.F.length Y.D.c2,.int .i64 a.ep,.int .i64 a.ck,.int .i64 a.ni] 36))
 have HR:=Lh (har.alloc (.cells #[.slice Y.A a.sl.length Y.c,.slice Y.A2 a.st.length Y.c2,.int .i64 a.ow,.int .i64 a.cap,.slice Y.A3 a.dl.length Y.c3,.int .i64 a.dir.vn,.slice Y.D.A a.dir.l.length Y.D.c,.slice Y.D.A2 a.dir.F.length Y.D.c2,.int .i64 a.ep,.int .i64 a.ck,.int .i64 a.ni] 36))
 by_cases hl:n=a.sl.length
 ·have HX:=Lh (show a.own n=a.ow from if_pos hl)
  have hb:((n:Int)==(a.sl.length:Int))=true:=by simp [hl]
  clear hl hn har
  go_enter Tryz.func14,Tryz.ntmps14
  obtain ⟨y0,y1,y2,y3,y4,y5,y6,y7,y8,y9,y10⟩:=HB.out.k
  have yl:=HB.out.lt
  go_wp2
  go_ret
  exact ⟨by rw [HX.out];rfl,HW.out⟩
 ·have hlt:n<a.sl.length:=by omega
  have HX:=Lh (show a.own n=(og a.sl n).ow from if_neg hl)
  have hb:((n:Int)==(a.sl.length:Int))=false:=beq_eq_false_iff_ne.2 (by omega)
  have HLT:=Lh hlt
  clear hl hn har
  go_enter Tryz.func14,Tryz.ntmps14
  obtain ⟨y0,y1,y2,y3,y4,y5,y6,y7,y8,y9,y10⟩:=HB.out.k
  have yl:=HB.out.lt
  go_upto_region 1 with (fail)
  generalize (w.alloc (.cells #[.slice Y.A a.sl.length Y.c,.slice Y.A2 a.st.length Y.c2,.int .i64 a.ow,.int .i64 a.cap,.slice Y.A3 a.dl.length Y.c3,.int .i64 a.dir.vn,.slice Y.D.A a.dir.l.length Y.D.c,.slice Y.D.A2 a.dir.F.length Y.D.c2,.int .i64 a.ep,.int .i64 a.ck,.int .i64 a.ni] 36))=w1 at*
  obtain ⟨D,b,o,hA,hbb,h9,-,-⟩:=HR.out.at2 HLT.out
  have h0:=h9.1
  generalize og a.sl n=TT at*
  simp only at h0
  rw [hA] at y0
  clear hA HR h9
  go_wp2
  go_ret
  exact ⟨by rw [HX.out];rfl,HW.out⟩
section
variable {w W W' : World} {p r b:Nat} {a:Ar} {Y:Ax}
end
theorem lk_yes {n m:Nat} {t:Int} (hn:m<=n) (h:wi t 1 200=true):lkE n (m:Int) t=0:=by
 unfold lkE rgE
 rw [if_pos (wi_true (by omega) (by omega)),if_pos h]
theorem ctF_nat {cs:List Int} {n:Nat} (h:n<cs.length):ctF cs (n:Int)=ig cs n:=by unfold ctF;rw [if_pos (by omega)];rfl
def RS13 (w:World) (a:Ar) (Y:Ax) (n:Nat) (A:Option Addr) (a' : Ar) (l' : Lk) (x:Int) (e:Ending) (w' : World):Prop:=∃ Y' A' c',e=.returned (.tuple #[av a' Y',lv l' A' c',.int .i64 x])/\AR w' w'.heap.size a' Y'/\(∀ p0,p0<w.heap.size->AOff a Y p0->AOff a' Y' p0)/\Fl w' w'.heap.size (.slice A' l'.cs.length c') l'.cs/\(∀ p0,OffB p0 n A->OffB p0 l'.cs.length A')/\Below w.heap.size w w'
structure Jr (w:World) (p q r s x:Nat) (a:Ar) (Y:Ax) (l:Lk) (A:Option Addr) (c:Nat) (b:Ar) (Z:Ax) (W:World):Prop where
 js:Js w p q r s a Y l A c W
 xb:QB W x b Z
 xr:AR W W.heap.size b Z
 xo:AOff b Z q/\AOff b Z r/\AOff b Z s
 of:∀ p0,p0<w.heap.size->AOff a Y p0->AOff b Z p0
 lt:s<x
section
variable {w w1 W w4:World} {p q r s x:Nat} {a b:Ar} {Y Z:Ax} {l m:Lk} {A:Option Addr} {c:Nat}
end
end Go.Proofs.YtkecnihgjepfeaaGreat
