/- What is proved here: parts of the proof: Ald Ui Uj Uk Up Uq. -/
import Derived.Test.YtkecnihgjepfeaaGreatJ37
namespace Go.Proofs.YtkecnihgjepfeaaGreat
open Go.RowKit
set_option linter.unusedVariables false
set_option linter.unusedSimpArgs false
set_option maxHeartbeats 8000000
set_option maxRecDepth 20000
structure Ga2 (w:World) (p r:Nat) (a:Ar) (Y:Ax) (cs:List Value) (W:World):Prop where
 pb:QB W p a Y
 rb:Rb W r cs
 ar:AR W w.heap.size a Y
 ne:w.heap.size<=p/\p<r
 bel:Below w.heap.size w W
theorem Ga2.below {w W W' : World} {p r:Nat} {a:Ar} {Y:Ax} {cs:List Value} (h:Ga2 w p r a Y cs W) (hb:Below W.heap.size W W'):Ga2 w p r a Y cs W':=⟨h.pb.up hb,h.rb.up hb,h.ar.below (hb.mono h.bel.size),h.ne,h.bel.trans (hb.mono h.bel.size)⟩
theorem Ga2.start {w:World} {a:Ar} {Y:Ax} (har:AR w w.heap.size a Y) (cs:List Value) (t:TypeId):Ga2 w w.heap.size (w.heap.size+1) a Y cs ((w.alloc (.cells #[.slice Y.A a.sl.length Y.c,.slice Y.A2 a.st.length Y.c2,.int .i64 a.ow,.int .i64 a.cap,.slice Y.A3 a.dl.length Y.c3,.int .i64 a.dir.vn,.slice Y.D.A a.dir.l.length Y.D.c,.slice Y.D.A2 a.dir.F.length Y.D.c2,.int .i64 a.ep,.int .i64 a.ck,.int .i64 a.ni] 36)).alloc (.cells cs.toArray t)):=by
 have h1:=Rb.start (w.alloc (.cells #[.slice Y.A a.sl.length Y.c,.slice Y.A2 a.st.length Y.c2,.int .i64 a.ow,.int .i64 a.cap,.slice Y.A3 a.dl.length Y.c3,.int .i64 a.dir.vn,.slice Y.D.A a.dir.l.length Y.D.c,.slice Y.D.A2 a.dir.F.length Y.D.c2,.int .i64 a.ep,.int .i64 a.ck,.int .i64 a.ni] 36)) cs t
 rw [show (w.alloc (.cells #[.slice Y.A a.sl.length Y.c,.slice Y.A2 a.st.length Y.c2,.int .i64 a.ow,.int .i64 a.cap,.slice Y.A3 a.dl.length Y.c3,.int .i64 a.dir.vn,.slice Y.D.A a.dir.l.length Y.D.c,.slice Y.D.A2 a.dir.F.length Y.D.c2,.int .i64 a.ep,.int .i64 a.ck,.int .i64 a.ni] 36)).heap.size=w.heap.size+1 by simp] at h1
 have b1:=(Below.refl w.heap.size w).alloc (nLR _) (.cells #[.slice Y.A a.sl.length Y.c,.slice Y.A2 a.st.length Y.c2,.int .i64 a.ow,.int .i64 a.cap,.slice Y.A3 a.dl.length Y.c3,.int .i64 a.dir.vn,.slice Y.D.A a.dir.l.length Y.D.c,.slice Y.D.A2 a.dir.F.length Y.D.c2,.int .i64 a.ep,.int .i64 a.ck,.int .i64 a.ni] 36)
 have b2:=(Below.refl (w.alloc (.cells #[.slice Y.A a.sl.length Y.c,.slice Y.A2 a.st.length Y.c2,.int .i64 a.ow,.int .i64 a.cap,.slice Y.A3 a.dl.length Y.c3,.int .i64 a.dir.vn,.slice Y.D.A a.dir.l.length Y.D.c,.slice Y.D.A2 a.dir.F.length Y.D.c2,.int .i64 a.ep,.int .i64 a.ck,.int .i64 a.ni] 36)).heap.size (w.alloc (.cells #[.slice Y.A a.sl.length Y.c,.slice Y.A2 a.st.length Y.c2,.int .i64 a.ow,.int .i64 a.cap,.slice Y.A3 a.dl.length Y.c3,.int .i64 a.dir.vn,.slice Y.D.A a.dir.l.length Y.D.c,.slice Y.D.A2 a.dir.F.length Y.D.c2,.int .i64 a.ep,.int .i64 a.ck,.int .i64 a.ni] 36))).alloc (nLR _) (.cells cs.toArray t)
 have b3:=b1.trans (b2.mono (by simp))
 exact ⟨(QB.start w a Y 36).up b2,h1,har.below b3,by omega,b3⟩
theorem aloadstripe_any (a:Ar) (Y:Ax) (n:Nat) (w:World) (har:AR w w.heap.size a Y) (hf:a.Few) (hn:islB a (n:Int)=true):Calls Tryz.prog 111 #[av a Y,.int .i64 (n:Int)] w fun e w'=>e=.returned (.tuple #[.agg #[.int .i64 (tg a.st n).sq,.int .i64 (tg a.st n).ep,.int .i64 (tg a.st n).rd,.int .i64 (tg a.st n).ls],.int .i64 0])/\Below w.heap.size w w':=by
 obtain ⟨p,hp⟩:∃ p,p=w.heap.size:=⟨_,rfl⟩
 obtain ⟨r,hr⟩:∃ r,r=w.heap.size+1:=⟨_,rfl⟩
 have H0:=Lh (show Ga2 w p r a Y [.int .i64 0,.int .i64 0,.int .i64 0,.int .i64 0] ((w.alloc (.cells #[.slice Y.A a.sl.length Y.c,.slice Y.A2 a.st.length Y.c2,.int .i64 a.ow,.int .i64 a.cap,.slice Y.A3 a.dl.length Y.c3,.int .i64 a.dir.vn,.slice Y.D.A a.dir.l.length Y.D.c,.slice Y.D.A2 a.dir.F.length Y.D.c2,.int .i64 a.ep,.int .i64 a.ck,.int .i64 a.ni] 36)).alloc (.cells #[.int .i64 0,.int .i64 0,.int .i64 0,.int .i64 0] 63)) from by rw [hr,hp];exact Ga2.start har _ _)
 have HPP:=Lh (And.intro hp hr)
 have HIS:=Lh (fun W=>aisslot_any a Y (n:Int) W hf)
 rw [hn] at HIS
 have HN:=Lh (isl_nat hn)
 obtain ⟨T,hT⟩:∃ T,T=tg a.st n:=⟨_,rfl⟩
 rw [<-hT]
 have HTT:=Lh hT
 clear hp hr har hf hn hT
 go_enter Tryz.func111,Tryz.ntmps111
 go_upto_region 1 with (fail)
 rw [<-HPP.out.2,<-HPP.out.1]
 generalize (w.alloc (.cells #[.slice Y.A a.sl.length Y.c,.slice Y.A2 a.st.length Y.c2,.int .i64 a.ow,.int .i64 a.cap,.slice Y.A3 a.dl.length Y.c3,.int .i64 a.dir.vn,.slice Y.D.A a.dir.l.length Y.D.c,.slice Y.D.A2 a.dir.F.length Y.D.c2,.int .i64 a.ep,.int .i64 a.ck,.int .i64 a.ni] 36)).alloc (.cells #[.int .i64 0,.int .i64 0,.int .i64 0,.int .i64 0] 63)=w1 at*
 obtain ⟨y0,y1,y2,y3,y4,y5,y6,y7,y8,y9,y10⟩:=H0.out.pb.k
 have yl:=H0.out.pb.lt
 go_wp2_with fail
 clear y0 y1 y2 y3 y4 y5 y6 y7 y8 y9 y10 yl
 refine (HIS.out _).mono ?_
 rintro e w2 ⟨rfl,hb⟩
 have H1:=Lh (H0.out.below hb)
 clear hb H0 HIS
 have hlt:n<a.st.length:=by have:=HN.out;omega
 have hlt' : (n:Int)<(a.st.length:Int):=by omega
 have hn0:(0:Int)<=(n:Int):=by omega
 obtain ⟨b,o,eA,-,t0,t1,t2,t3⟩:=H1.out.ar.tl.atg hlt
 rw [<-HTT.out] at t0 t1 t2 t3
 obtain ⟨-,y1,-⟩:=H1.out.pb.k
 have yl:=H1.out.pb.lt
 rw [eA] at y1
 have r0:=H1.out.rb.c 0 _ rfl
 have r1:=H1.out.rb.c 1 _ rfl
 have r2:=H1.out.rb.c 2 _ rfl
 have r3:=H1.out.rb.c 3 _ rfl
 have rl:=H1.out.rb.lt
 have f0:=H1.out.rb.f 0
 have f1:=H1.out.rb.f 1
 have f2:=H1.out.rb.f 2
 have f3:=H1.out.rb.f 3
 have HF:=Lh (show Below w.heap.size w ((((w2.setCell ⟨r,0,none⟩ (.int .i64 T.sq)).setCell ⟨r,1,none⟩ (.int .i64 T.ep)).setCell ⟨r,2,none⟩ (.int .i64 T.rd)).setCell ⟨r,3,none⟩ (.int .i64 T.ls)) from stN15_below (vs:=[.int .i64 T.sq,.int .i64 T.ep,.int .i64 T.rd,.int .i64 T.ls]) H1.out.bel (show w.heap.size<=r by have:=H1.out.ne;omega) 0)
 clear eA H1 HTT
 go_wp2
 exact bodyPost_ret (v:=.tuple #[.agg #[.int .i64 T.sq,.int .i64 T.ep,.int .i64 T.rd,.int .i64 T.ls],.int .i64 0]) (by simp only [results,Tryz.results111];go_simp <;> rfl) rfl ⟨rfl,HF.out⟩
theorem aloaddead_any (a:Ar) (Y:Ax) (w:World) (har:AR w w.heap.size a Y) (hf:a.Few):Calls Tryz.prog 87 #[av a Y] w (DdV w a.cap a.dl):=by
 obtain ⟨p,hp⟩:∃ p,p=w.heap.size:=⟨_,rfl⟩
 obtain ⟨r,hr⟩:∃ r,r=w.heap.size+1:=⟨_,rfl⟩
 have H0:=Lh (show Ga2 w p r a Y [.int .i64 0,.slice none 0 0] ((w.alloc (.cells #[.slice Y.A a.sl.length Y.c,.slice Y.A2 a.st.length Y.c2,.int .i64 a.ow,.int .i64 a.cap,.slice Y.A3 a.dl.length Y.c3,.int .i64 a.dir.vn,.slice Y.D.A a.dir.l.length Y.D.c,.slice Y.D.A2 a.dir.F.length Y.D.c2,.int .i64 a.ep,.int .i64 a.ck,.int .i64 a.ni] 36)).alloc (.cells #[.int .i64 0,.slice none 0 0] 29)) from by rw [hr,hp];exact Ga2.start har _ _)
 have HPP:=Lh (And.intro hp hr)
 have HCD:=Lh (fun W (h:Ga2 w p r a Y [.int .i64 0,.slice none 0 0] W)=>cdead_any a.cap Y.A3 Y.c3 a.dl W ((h.ar.more h.bel.size).ls) hf.dl)
 clear hp hr har hf
 go_enter Tryz.func87,Tryz.ntmps87
 go_upto_region 1 with (fail)
 rw [<-HPP.out.2,<-HPP.out.1]
 generalize (w.alloc (.cells #[.slice Y.A a.sl.length Y.c,.slice Y.A2 a.st.length Y.c2,.int .i64 a.ow,.int .i64 a.cap,.slice Y.A3 a.dl.length Y.c3,.int .i64 a.dir.vn,.slice Y.D.A a.dir.l.length Y.D.c,.slice Y.D.A2 a.dir.F.length Y.D.c2,.int .i64 a.ep,.int .i64 a.ck,.int .i64 a.ni] 36)).alloc (.cells #[.int .i64 0,.slice none 0 0] 29)=w1 at*
 obtain ⟨y0,y1,y2,y3,y4,y5,y6,y7,y8,y9,y10⟩:=H0.out.pb.k
 have yl:=H0.out.pb.lt
 go_wp2_with fail
 clear y0 y1 y2 y3 y4 y5 y6 y7 y8 y9 y10 yl
 refine (HCD.out _ H0.out).mono ?_
 rintro e w2 ⟨A,c,rfl,hn,hl,hb⟩
 have H1:=Lh (H0.out.below hb)
 have r0:=H1.out.rb.c 0 _ rfl
 have r1:=H1.out.rb.c 1 _ rfl
 have rl:=H1.out.rb.lt
 have f0:=H1.out.rb.f 0
 have f1:=H1.out.rb.f 1
 have HF:=Lh (show DdV w a.cap a.dl (.returned (.agg #[.int .i64 a.cap,.slice A a.dl.length c])) ((w2.setCell ⟨r,0,none⟩ (.int .i64 a.cap)).setCell ⟨r,1,none⟩ (.slice A a.dl.length c)) from by
  have ho:OffB r a.dl.length A:=offb_nw hn H0.out.rb.lt
  refine ⟨A,c,rfl,nw_low hn (Nat.le_trans H0.out.bel.size (nLR _)),?_,stN15_below (vs:=[.int .i64 a.cap,.slice A a.dl.length c]) H1.out.bel (show w.heap.size<=r by have:=H1.out.ne;omega) 0⟩
  exact ((hl.offp (p:=⟨r,0,none⟩) ho _).offp (p:=⟨r,1,none⟩) ho _).more (by simp))
 clear hn hl hb H0 H1 HCD
 go_wp2
 exact bodyPost_ret (v:=.agg #[.int .i64 a.cap,.slice A a.dl.length c]) (by simp only [results,Tryz.results87];go_simp <;> rfl) rfl HF.out
theorem info_st15:(Tryz.prog.info? 63).map (fun i=>(i.zero,i.size,i.bytes))=some (some (.agg #[.int .i64 0,.int .i64 0,.int .i64 0,.int .i64 0]),4,32):=by kernel_rfl
theorem uloadstripe_any {B p:Nat} {s:Se} {X:Sex} {a:Ar} {Y:Ax} {t n:Int} (k c:Nat) (wr:World) (h:Ur B p s X a Y t n wr) (ho:Us B p s X a Y wr) (hw:a.Few) (hk:k<s.lk.cs.length) (hc:ig s.lk.cs k=(c:Int)) (hi:islB a (c:Int)=true) (hl:s.st.length<=9):Calls Tryz.prog 82 #[.pointer (some ⟨p,0,none⟩),.int .i64 (k:Int)] wr (UrP B p t n { s with st:=s.st++[tg a.st c] } a 0 wr):=by
 have HT:=Lh (fun W (k:Below wr.heap.size wr W)=>aloadstripe_any a Y c W (h.up k).ar hw hi)
 have HCA:=Lh (fun W (k' : Below wr.heap.size wr W)=>ucell_any k W (h.up k') hk)
 rw [hc] at HCA
 have H0:=Lh h
 have HO:=Lh ho
 have HL:=Lh hl
 obtain ⟨M,hM⟩:∃ M,M=tg a.st c:=⟨_,rfl⟩
 rw [<-hM] at HT ⊢
 clear h ho hw hk hc hi hM hl
 obtain ⟨i0,hi0,hz0⟩:=Option.map_eq_some_iff.1 info_st15
 simp only [Prod.mk.injEq] at hz0
 have HI:=Lh hi0
 have HZ:=Lh hz0
 clear hi0 hz0
 have HSK:=Lh (show ∀ W,Below wr.heap.size wr W->KAr p a Y W from fun W k=>(H0.out.up k).kar)
 have HB0:=Lh (Below.refl wr.heap.size wr)
 go_enter Tryz.func82,Tryz.ntmps82
 go_upto_region 1 with (fail)
 go_cut [5,6] (fun s16 s18 wx=>∃ u,s16=.pointer (some ⟨u,0,none⟩)/\s18=.int .i64 0/\Hid (Nz wr u [.int .i64 M.sq,.int .i64 M.ep,.int .i64 M.rd,.int .i64 M.ls] wx))
 case first=>
  go_region_held3 (fun W=>KAr p a Y W)
   ((refine HSK.out _ ?_;repeat' (first | with_reducible exact HB0.out | with_reducible exact HB4.out | with_reducible refine bal ?_ _ | with_reducible refine bdr ?_ | with_reducible refine bst ?_ ?_ _ | exact nLR _ | (simp;done) | (simp;omega))))
   (first | (go_at_call 85;(with_reducible refine (HCA.out _ ?hbel).mono ?_);(case hbel=>(repeat' (first | with_reducible exact HB0.out | with_reducible refine bal ?_ _ | with_reducible refine bdr ?_)));rintro e w5 ⟨rfl,rfl⟩) | (go_at_call 111;(with_reducible refine (HT.out _ ?hbel).mono ?_);(case hbel=>(repeat' (first | with_reducible exact HB0.out | with_reducible refine bal ?_ _ | with_reducible refine bdr ?_)));rintro e w4 ⟨rfl,hb⟩;have HP:=Lh (nz_2 (zs:=[.int .i64 0,.int .i64 0,.int .i64 0,.int .i64 0]) (cs:=[.int .i64 M.sq,.int .i64 M.ep,.int .i64 M.rd,.int .i64 M.ls]) 63 rfl hb).2;have HXU:=Lh (nz_2 (zs:=[.int .i64 0,.int .i64 0,.int .i64 0,.int .i64 0]) (cs:=[.int .i64 M.sq,.int .i64 M.ep,.int .i64 M.rd,.int .i64 M.ls]) 63 rfl hb).1;have HB4:=Lh ((bdr (bal HB0.out (.cells #[.int .i64 0,.int .i64 0,.int .i64 0,.int .i64 0] 63))).trans (hb.mono (by simp <;> omega)));have z0:=HXU.out.c 0 _ rfl;have f0:=HXU.out.f 0;have z1:=HXU.out.c 1 _ rfl;have f1:=HXU.out.f 1;have z2:=HXU.out.c 2 _ rfl;have f2:=HXU.out.f 2;have z3:=HXU.out.c 3 _ rfl;have f3:=HXU.out.f 3;have zl:=HXU.out.lt;clear hb) | (go_at_call 111;(with_reducible refine (HT.out _ ?hbel).mono ?_);(case hbel=>(repeat' (first | with_reducible exact HB0.out | with_reducible refine bal ?_ _ | with_reducible refine bdr ?_)));rintro e w4 ⟨rfl,hb⟩;have HP:=Lh (nz_1 (cs:=[.int .i64 M.sq,.int .i64 M.ep,.int .i64 M.rd,.int .i64 M.ls]) 63 (bdr HB0.out) hb);have HB4:=Lh ((bdr HB0.out).trans (hb.mono (by simp <;> omega)));clear hb))
  all_goals
   go_wp2_with fail
   go_meet
   exact ⟨_,rfl,rfl,HP⟩
 case rest=>
  obtain ⟨u,rfl,rfl,HN⟩:=hcut
  have HBB:=Lh (show Below B wr wc from HN.out.bel.mono (Nat.le_trans H0.out.ne (Nat.le_of_lt H0.out.lt)))
  have H1:=Lh (H0.out.up HN.out.bel)
  have HO1:=Lh (HO.out.up HN.out.bel)
  have HNE:=Lh (show p<u/\∀ b,(Value.slice X.At s.st.length X.ct).ownBlock=some b->b<u from ⟨Nat.lt_of_lt_of_le H0.out.lt HN.out.ne,fun b e=>Nat.lt_of_lt_of_le (HO.out.own.lt b e).2 HN.out.ne⟩)
  clear HT HCA HSK HB0 H0 HO
  generalize wc=w1 at*
  have u0:=HN.out.ub.c 0 _ rfl
  have u1:=HN.out.ub.c 1 _ rfl
  have u2:=HN.out.ub.c 2 _ rfl
  have u3:=HN.out.ub.c 3 _ rfl
  have ul:=HN.out.ub.lt
  have c14:=H1.out.rb.c 14 _ rfl
  have f14:=H1.out.rb.f 14
  have yl:=H1.out.rb.lt
  have npu:¬p=u:=Nat.ne_of_lt HNE.out.1
  have nup:¬u=p:=fun e=>npu e.symm
  go_upto_region 4 with (fail)
  have HA1:=Lh (show Ur B p s X a Y t n (w1.drew.alloc (.cells #[.int .i64 M.sq,.int .i64 M.ep,.int .i64 M.rd,.int .i64 M.ls] 63))/\Us B p s X a Y (w1.drew.alloc (.cells #[.int .i64 M.sq,.int .i64 M.ep,.int .i64 M.rd,.int .i64 M.ls] 63))/\Below B wr (w1.drew.alloc (.cells #[.int .i64 M.sq,.int .i64 M.ep,.int .i64 M.rd,.int .i64 M.ls] 63)) from ⟨H1.out.up (bal (bdr (Below.refl _ _)) _),HO1.out.up (bal (bdr (Below.refl _ _)) _),HBB.out.drew.alloc (show B<=w1.heap.size from Nat.le_trans H1.out.ne (Nat.le_of_lt H1.out.lt)) _⟩)
  go_region_law (refine step_append_lies _ (by rfl) _ _ _ (by rfl) B 63 i0 _ 4 32 Tryz.underlying26 HI.out HZ.out.1 HZ.out.2.1 HZ.out.2.2 rfl (by omega) (.slice X.At s.st.length X.ct) s.st.length (tcs s.st) (by rfl) HA1.out.2.1.own ⟨w1.heap.size,0,none⟩ 1 1 M.l (by rfl) (by rfl) (World.news_of_block (cs:=M.l.toArray) (t:=63) (fr:=(0,0)) (heap_alloc_new w1.drew _)) (St.l_one _) (by omega) (by have:=HL.out;unfold maxLen;omega) (by have:=HL.out;omega) (Nat.le_trans HA1.out.1.ne (Nat.le_of_lt HA1.out.1.lt)) _ rfl ?_;intro g1 cp1 w8 hown1 hgrow1 hat1 hlt1;have HP8:=Lh (HA1.out.1.app HA1.out.2.1 (x:=M) hown1 hgrow1 hat1);have c14:=(HA1.out.1.rb.grownN hgrow1 (fun b e=>(HA1.out.2.1.off b e).1)).c 14 _ rfl;have f14:=(HA1.out.1.rb.grownN hgrow1 (fun b e=>(HA1.out.2.1.off b e).1)).f 14;have yl:=(HA1.out.1.rb.grownN hgrow1 (fun b e=>(HA1.out.2.1.off b e).1)).lt;clear hown1 hgrow1 hat1 hlt1)
  all_goals
   have HF:=Lh (HP8.out.1.rp (HA1.out.2.2.trans HP8.out.2) 0)
   clear H1 HO1 HA1 HP8 HN
   go_wp2
   go_ret
   exact HF.out
section
variable {W:World} {B p b k:Nat} {s:Se} {X:Sex} {a:Ar} {Y:Ax} {t n:Int}
theorem Ur.setS (h:Ur B p s X a Y t n W) (ho:Us B p s X a Y W) (hk:k<s.st.length) (hb:X.At=some ⟨b,0,none⟩) (hrow:Rb W b (tcs s.st)) (x:St):Ur B p { s with st:=s.st.set k x } X a Y t n ((((W.setCell ⟨b,k*4,none⟩ (.int .i64 x.sq)).setCell ⟨b,k*4+1,none⟩ (.int .i64 x.ep)).setCell ⟨b,k*4+2,none⟩ (.int .i64 x.rd)).setCell ⟨b,k*4+3,none⟩ (.int .i64 x.ls))/\(b≠p/\B<=b):=by
 have hob:(Value.slice X.At s.st.length X.ct).ownBlock=some b:=by rw [hb];rfl
 obtain ⟨hbp,hba,hbr⟩:=ho.off b hob
 have hbB:=(ho.own.lt b hob).1
 have hlen:=tcs_len s.st
 have hl:(s.st.set k x).length=s.st.length:=by simp
 have r4:=(((hrow.set (j:=k*4) (by omega) (.int .i64 x.sq)).set (j:=k*4+1) (by simp;omega) (.int .i64 x.ep)).set (j:=k*4+2) (by simp;omega) (.int .i64 x.rd)).set (j:=k*4+3) (by simp;omega) (.int .i64 x.ls)
 rw [tcs_set s.st k x hk] at r4
 have hcp:=h.se.ok.c.2.2.2.1
 have htl:Tl ((((W.setCell ⟨b,k*4,none⟩ (.int .i64 x.sq)).setCell ⟨b,k*4+1,none⟩ (.int .i64 x.ep)).setCell ⟨b,k*4+2,none⟩ (.int .i64 x.rd)).setCell ⟨b,k*4+3,none⟩ (.int .i64 x.ls)) ((((W.setCell ⟨b,k*4,none⟩ (.int .i64 x.sq)).setCell ⟨b,k*4+1,none⟩ (.int .i64 x.ep)).setCell ⟨b,k*4+2,none⟩ (.int .i64 x.rd)).setCell ⟨b,k*4+3,none⟩ (.int .i64 x.ls)).heap.size (.slice (some ⟨b,0,none⟩) (s.st.set k x).length X.ct) (s.st.set k x):=
  ⟨_,X.ct,rfl,by rw [hl];exact hcp.1,hcp.2,by rw [tcs_len],fun _=>⟨b,0,rfl,r4.lt,fun j u hu=>by rw [Nat.zero_add];exact r4.c j u hu⟩⟩
 have hsz:((((W.setCell ⟨b,k*4,none⟩ (.int .i64 x.sq)).setCell ⟨b,k*4+1,none⟩ (.int .i64 x.ep)).setCell ⟨b,k*4+2,none⟩ (.int .i64 x.rd)).setCell ⟨b,k*4+3,none⟩ (.int .i64 x.ls)).heap.size=W.heap.size:=by simp
 have hno:RR W W.heap.size (s.no.rows X.no):=no_of h.se.r (Rd.nil none)
 have hno2:RR ((((W.setCell ⟨b,k*4,none⟩ (.int .i64 x.sq)).setCell ⟨b,k*4+1,none⟩ (.int .i64 x.ep)).setCell ⟨b,k*4+2,none⟩ (.int .i64 x.rd)).setCell ⟨b,k*4+3,none⟩ (.int .i64 x.ls)) ((((W.setCell ⟨b,k*4,none⟩ (.int .i64 x.sq)).setCell ⟨b,k*4+1,none⟩ (.int .i64 x.ep)).setCell ⟨b,k*4+2,none⟩ (.int .i64 x.rd)).setCell ⟨b,k*4+3,none⟩ (.int .i64 x.ls)).heap.size (s.no.rows X.no):=by
  rw [hsz]
  exact (((hno.offp (q:=⟨b,k*4,none⟩) hbr _).offp (q:=⟨b,k*4+1,none⟩) hbr _).offp (q:=⟨b,k*4+2,none⟩) hbr _).offp (q:=⟨b,k*4+3,none⟩) hbr _
 have hnp:ROff (s.no.rows X.no) p:=no_of h.so (offb_0 _ _)
 have hnn:RNw (s.no.rows X.no) B:=no_of h.sn nw_none
 have hop:OffB p (s.st.set k x).length X.At:=fun _ q e=>by rw [hb] at e;injection e with e;subst e;exact hbp
 have hrb:Rb ((((W.setCell ⟨b,k*4,none⟩ (.int .i64 x.sq)).setCell ⟨b,k*4+1,none⟩ (.int .i64 x.ep)).setCell ⟨b,k*4+2,none⟩ (.int .i64 x.rd)).setCell ⟨b,k*4+3,none⟩ (.int .i64 x.ls)) p (rcl { s with st:=s.st.set k x } X a Y t n):=by
  have k4:=(((h.rb.other (a:=⟨b,k*4,none⟩) hbp (.int .i64 x.sq)).other (a:=⟨b,k*4+1,none⟩) hbp (.int .i64 x.ep)).other (a:=⟨b,k*4+2,none⟩) hbp (.int .i64 x.rd)).other (a:=⟨b,k*4+3,none⟩) hbp (.int .i64 x.ls)
  unfold rcl at k4 ⊢
  simp only [hl]
  exact k4
 refine ⟨⟨hrb,?_,?_,?_,?_,h.ao,h.an,h.ne⟩,hbp,hbB⟩
 ·refine ⟨se_rows_of (hno2 ⟨1,X.Al,s.lk.cs.length,ics s.lk.cs⟩ (by simp [Se.rows,Se.no,Sex.no])) (fun r hr=>hno2 r (by simp only [Se.rows,Se.no,Sex.no,List.mem_cons,List.mem_append];exact .inr (.inl hr))) (hno2 ⟨7,X.Ad,s.dl.length,lcs s.dl⟩ (by simp [Se.rows,Se.no,Sex.no])) (by show Rd _ _ 4 X.At _ _;rw [hb];exact htl.rd) (hno2 ⟨3,X.D.A,s.dir.l.length,scs s.dir.l⟩ (by simp [Se.rows,Se.no,Sex.no])) (hno2 ⟨1,X.D.A2,s.dir.F.length,ics s.dir.F⟩ (by simp [Se.rows,Se.no,Sex.no])) (hno2 ⟨7,X.Ac,s.ca.length,lcs s.ca⟩ (by simp [Se.rows,Se.no,Sex.no])) (fun r hr=>hno2 r (by simp only [Se.rows,Se.no,Sex.no,List.mem_cons,List.mem_append];exact .inr (.inr (.inr hr)))),⟨h.se.ok.q,h.se.ok.qc,⟨h.se.ok.c.1,h.se.ok.c.2.1,h.se.ok.c.2.2.1,⟨by show (s.st.set k x).length<=X.ct;rw [hl];exact hcp.1,hcp.2⟩,h.se.ok.c.2.2.2.2⟩,h.se.ok.o⟩⟩
 ·exact se_rows_of (hnp ⟨1,X.Al,s.lk.cs.length,ics s.lk.cs⟩ (by simp [Se.rows,Se.no,Sex.no])) (fun r hr=>hnp r (by simp only [Se.rows,Se.no,Sex.no,List.mem_cons,List.mem_append];exact .inr (.inl hr))) (hnp ⟨7,X.Ad,s.dl.length,lcs s.dl⟩ (by simp [Se.rows,Se.no,Sex.no])) hop (hnp ⟨3,X.D.A,s.dir.l.length,scs s.dir.l⟩ (by simp [Se.rows,Se.no,Sex.no])) (hnp ⟨1,X.D.A2,s.dir.F.length,ics s.dir.F⟩ (by simp [Se.rows,Se.no,Sex.no])) (hnp ⟨7,X.Ac,s.ca.length,lcs s.ca⟩ (by simp [Se.rows,Se.no,Sex.no])) (fun r hr=>hnp r (by simp only [Se.rows,Se.no,Sex.no,List.mem_cons,List.mem_append];exact .inr (.inr (.inr hr))))
 ·exact se_rows_of (hnn ⟨1,X.Al,s.lk.cs.length,ics s.lk.cs⟩ (by simp [Se.rows,Se.no,Sex.no])) (fun r hr=>hnn r (by simp only [Se.rows,Se.no,Sex.no,List.mem_cons,List.mem_append];exact .inr (.inl hr))) (hnn ⟨7,X.Ad,s.dl.length,lcs s.dl⟩ (by simp [Se.rows,Se.no,Sex.no])) (fun a e=>by change X.At=_ at e;rw [hb] at e;injection e with e;subst e;exact hbB) (hnn ⟨3,X.D.A,s.dir.l.length,scs s.dir.l⟩ (by simp [Se.rows,Se.no,Sex.no])) (hnn ⟨1,X.D.A2,s.dir.F.length,ics s.dir.F⟩ (by simp [Se.rows,Se.no,Sex.no])) (hnn ⟨7,X.Ac,s.ca.length,lcs s.ca⟩ (by simp [Se.rows,Se.no,Sex.no])) (fun r hr=>hnn r (by simp only [Se.rows,Se.no,Sex.no,List.mem_cons,List.mem_append];exact .inr (.inr (.inr hr))))
 ·rw [hsz]
  exact (((h.ar.offp (q:=⟨b,k*4,none⟩) hba _).offp (q:=⟨b,k*4+1,none⟩) hba _).offp (q:=⟨b,k*4+2,none⟩) hba _).offp (q:=⟨b,k*4+3,none⟩) hba _
end
theorem umarkstripe_any {B p:Nat} {s:Se} {X:Sex} {a:Ar} {Y:Ax} {t n:Int} (k:Nat) (w:World) (h:Ur B p s X a Y t n w) (ho:Us B p s X a Y w) (hw:a.Few) (hk:k<s.lk.cs.length) (hk2:k<s.st.length) (hE:bgE (tg s.st k)=0) (hs:wi (bgT (tg s.st k)).sq 0 1099511627776=true/\wi (bgT (tg s.st k)).ep 0 1099511627776=true/\wi (bgT (tg s.st k)).rd 0 1099511627776=true/\wi (bgT (tg s.st k)).ls 0 1099511627776=true):Calls Tryz.prog 83 #[.pointer (some ⟨p,0,none⟩),.int .i64 (k:Int)] w (UrP B p t n { s with st:=s.st.set k (bgT (tg s.st k)) } (ssA a (ig s.lk.cs k) t (bgT (tg s.st k))) (slE a (ig s.lk.cs k) t) w):=by
 have HSA:=Lh (fun W (k' : Ur B p s X a Y t n W)=>ustripeat_any k W k' hk2)
 have HBG:=Lh (fun W=>ybegin_any (tg s.st k) W)
 rw [hE] at HBG
 have HST:=Lh (fun M W (k' : Ur B p { s with st:=s.st.set k M } X a Y t n W) hs=>ustorestripe_any k M W k' hw hk hs)
 have HSS:=Lh hs
 obtain ⟨b,cap,hbe,hbB,hle,hmx,hrow⟩:=own_rb ho.own (show 0<s.st.length by omega)
 have hbe2:X.At=some ⟨b,0,none⟩:=by injection hbe
 have H0:=Lh h
 have HO:=Lh ho
 have HRW:=Lh hrow
 have HK:=Lh hk2
 have HBE:=Lh hbe2
 have HBP:=Lh (h.setS ho hk2 hbe2 hrow zSt).2
 have hkl:(k:Int)<(s.st.length:Int):=by omega
 have hk0:¬(k:Int)<0:=by omega
 generalize tg s.st k=T at*
 generalize bgT T=M at*
 clear h ho hw hk hk2 hE hs hbe hbe2 hbB hle hmx hrow
 go_enter Tryz.func83,Tryz.ntmps83
 go_wp2_with fail
 refine (HSA.out _ H0.out).mono ?_
 rintro e w2 ⟨rfl,hb⟩
 have H2:=Lh (H0.out.up hb)
 have HO2:=Lh (HO.out.up hb)
 have HR2:=Lh (HRW.out.up hb)
 have HB2:=Lh (show Below B w w2 from hb.mono (Nat.le_trans H0.out.ne (Nat.le_of_lt H0.out.lt)))
 clear hb H0 HO HRW HSA
 go_wp2_with fail
 refine (HBG.out _).mono ?_
 rintro e w3 ⟨rfl,hb⟩
 have hal:=(Below.refl w3.heap.size w3).alloc (nLR _) (.cells #[.int .i64 M.sq,.int .i64 M.ep,.int .i64 M.rd,.int .i64 M.ls] 63)
 have HU:=Lh (Rb.start w3 [.int .i64 M.sq,.int .i64 M.ep,.int .i64 M.rd,.int .i64 M.ls] 63)
 have HPU:=Lh (show p<w3.heap.size/\b<w3.heap.size from ⟨Nat.lt_of_lt_of_le H2.out.lt hb.size,Nat.lt_of_lt_of_le HR2.out.lt hb.size⟩)
 have H3:=Lh ((H2.out.up hb).up hal)
 have HO3:=Lh ((HO2.out.up hb).up hal)
 have HR3:=Lh ((HR2.out.up hb).up hal)
 have HB3:=Lh (show Below B w (w3.alloc (.cells #[.int .i64 M.sq,.int .i64 M.ep,.int .i64 M.rd,.int .i64 M.ls] 63)) from HB2.out.trans ((hb.trans (hal.mono hb.size)).mono (Nat.le_trans H2.out.ne (Nat.le_of_lt H2.out.lt))))
 clear hb hal H2 HO2 HR2 HB2 HBG
 go_upto_region 4 with (fail)
 obtain ⟨u,hu⟩:∃ q,q=w3.heap.size:=⟨_,rfl⟩
 rw [<-hu] at HU HPU ⊢
 clear hu
 generalize w3.alloc (.cells #[.int .i64 M.sq,.int .i64 M.ep,.int .i64 M.rd,.int .i64 M.ls] 63)=w4 at*
 have u0:=HU.out.c 0 _ rfl
 have u1:=HU.out.c 1 _ rfl
 have u2:=HU.out.c 2 _ rfl
 have u3:=HU.out.c 3 _ rfl
 have ul:=HU.out.lt
 have c14:=H3.out.rb.c 14 _ rfl
 rw [HBE.out] at c14
 have yl:=H3.out.rb.lt
 have hlen:=tcs_len s.st
 have hkk:=HK.out
 obtain ⟨q0,hq0⟩:∃ v,(tcs s.st)[k*4]? = some v:=⟨_,List.getElem?_eq_getElem (by omega)⟩
 have b0:=HR3.out.c (k*4) _ hq0
 clear hq0
 obtain ⟨q1,hq1⟩:∃ v,(tcs s.st)[k*4+1]? = some v:=⟨_,List.getElem?_eq_getElem (by omega)⟩
 have b1:=HR3.out.c (k*4+1) _ hq1
 clear hq1
 obtain ⟨q2,hq2⟩:∃ v,(tcs s.st)[k*4+2]? = some v:=⟨_,List.getElem?_eq_getElem (by omega)⟩
 have b2:=HR3.out.c (k*4+2) _ hq2
 clear hq2
 obtain ⟨q3,hq3⟩:∃ v,(tcs s.st)[k*4+3]? = some v:=⟨_,List.getElem?_eq_getElem (by omega)⟩
 have b3:=HR3.out.c (k*4+3) _ hq3
 clear hq3
 have g0:=HR3.out.f (k*4)
 have g1:=HR3.out.f (k*4+1)
 have g2:=HR3.out.f (k*4+2)
 have g3:=HR3.out.f (k*4+3)
 have bl:=HR3.out.lt
 have npu:¬p=u:=Nat.ne_of_lt HPU.out.1
 have nbu:¬b=u:=Nat.ne_of_lt HPU.out.2
 have nub:¬u=b:=fun e=>nbu e.symm
 have HS:=Lh (show Ur B p { s with st:=s.st.set k M } X a Y t n ((((w4.setCell ⟨b,k*4,none⟩ (.int .i64 M.sq)).setCell ⟨b,k*4+1,none⟩ (.int .i64 M.ep)).setCell ⟨b,k*4+2,none⟩ (.int .i64 M.rd)).setCell ⟨b,k*4+3,none⟩ (.int .i64 M.ls)) from (H3.out.setS HO3.out hkk HBE.out HR3.out M).1)
 have HBS:=Lh (show Below B w ((((w4.setCell ⟨b,k*4,none⟩ (.int .i64 M.sq)).setCell ⟨b,k*4+1,none⟩ (.int .i64 M.ep)).setCell ⟨b,k*4+2,none⟩ (.int .i64 M.rd)).setCell ⟨b,k*4+3,none⟩ (.int .i64 M.ls)) from (((HB3.out.setCell (p:=⟨b,k*4,none⟩) HBP.out.2 _).setCell (p:=⟨b,k*4+1,none⟩) HBP.out.2 _).setCell (p:=⟨b,k*4+2,none⟩) HBP.out.2 _).setCell (p:=⟨b,k*4+3,none⟩) HBP.out.2 _)
 have HU2:=Lh (show Rb ((((w4.setCell ⟨b,k*4,none⟩ (.int .i64 M.sq)).setCell ⟨b,k*4+1,none⟩ (.int .i64 M.ep)).setCell ⟨b,k*4+2,none⟩ (.int .i64 M.rd)).setCell ⟨b,k*4+3,none⟩ (.int .i64 M.ls)) u [.int .i64 M.sq,.int .i64 M.ep,.int .i64 M.rd,.int .i64 M.ls] from (((HU.out.other (a:=⟨b,k*4,none⟩) nbu _).other (a:=⟨b,k*4+1,none⟩) nbu _).other (a:=⟨b,k*4+2,none⟩) nbu _).other (a:=⟨b,k*4+3,none⟩) nbu _)
 clear H3 HO3 HR3 HB3 HU hlen hkk
 go_region
 all_goals
  clear u0 u1 u2 u3 ul c14 yl b0 b1 b2 b3 g0 g1 g2 g3 bl npu nbu nub
  obtain ⟨w5,hw5⟩:∃ x,x=((((w4.setCell ⟨b,k*4,none⟩ (.int .i64 M.sq)).setCell ⟨b,k*4+1,none⟩ (.int .i64 M.ep)).setCell ⟨b,k*4+2,none⟩ (.int .i64 M.rd)).setCell ⟨b,k*4+3,none⟩ (.int .i64 M.ls)):=⟨_,rfl⟩
  rw [<-hw5] at HS HBS HU2 ⊢
  clear hw5
  replace HS:=Lh (HS.out.up (Below.refl _ _).drew)
  replace HBS:=Lh (HBS.out.drew)
  replace HU2:=Lh (HU2.out.up (Below.refl _ _).drew)
  generalize w5.drew=w6 at*
  have u0:=HU2.out.c 0 _ rfl
  have u1:=HU2.out.c 1 _ rfl
  have u2:=HU2.out.c 2 _ rfl
  have u3:=HU2.out.c 3 _ rfl
  have ul:=HU2.out.lt
  go_wp2_with fail
  refine (HST.out M _ HS.out HSS.out).mono ?_
  rintro e w7 ⟨X2,Y2,rfl,hu,hb⟩
  have HF:=Lh (show UrP B p t n { s with st:=s.st.set k M } (ssA a (ig s.lk.cs k) t M) (slE a (ig s.lk.cs k) t) w (.returned (.int .i64 (slE a (ig s.lk.cs k) t))) w7 from ⟨X2,Y2,rfl,hu,HBS.out.trans hb⟩)
  clear hu hb HS HBS HU2 u0 u1 u2 u3 ul HST HSS
  generalize slE a (ig s.lk.cs k) t=E at*
  generalize ssA a (ig s.lk.cs k) t M=TA at*
  go_wp2
  go_ret
  exact HF.out
theorem umark_e {B p:Nat} {s:Se} {X:Sex} {a:Ar} {Y:Ax} {t n:Int} (i c:Nat) (w:World) (h:Ur B p s X a Y t n w) (hw:a.Few) (hl:s.lk.cs.length<=9) (hat:s.at_=2*(i:Int)) (hk:i<s.lk.cs.length) (ho:Us B p s X a Y w) (hc:ig s.lk.cs i=(c:Int)) (hi:islB a (c:Int)=true) (hl2:s.st.length<=9):Calls Tryz.prog 59 #[.pointer (some ⟨p,0,none⟩)] w (UrP B p t n (avP a.sl.length { s with st:=s.st++[tg a.st c] } (2*(slF a.sl.length s.lk.cs:Int)) 2) a (avE a.sl.length { s with st:=s.st++[tg a.st c] } (2*(slF a.sl.length s.lk.cs:Int)) 2) w):=by
 have HCH:=Lh (show Calls Tryz.prog 82 #[.pointer (some ⟨p,0,none⟩),.int .i64 (i:Int)] w (UrP B p t n { s with st:=s.st++[tg a.st c] } a 0 w) from uloadstripe_any i c w h ho hw hk hc hi hl2)
 have HSL:=Lh (fun X' Y' W (k:Ur B p { s with st:=s.st++[tg a.st c] } X' a Y' t n W)=>uslots_any W k hl)
 have HAV:=Lh (fun X' Y' W (k:Ur B p { s with st:=s.st++[tg a.st c] } X' a Y' t n W)=>uadvance_any (2*(slF a.sl.length s.lk.cs:Int)) 2 W k hl (by decide) (by decide) (by show -9<=s.at_/\s.at_<=1000;omega))
 have hle:=slF_le a.sl.length s.lk.cs
 have H0:=Lh h
 have ht1:s.at_.tmod 2=0:=by rw [hat,Int.tmod_eq_emod_of_nonneg (by omega)];omega
 have ht2:s.at_.tdiv 2=(i:Int):=by rw [hat,Int.tdiv_eq_ediv_of_nonneg (by omega)];omega
 have hw1:IntKind.i64.wrap (i:Int)=(i:Int):=IntWalk.i64_in _ (by omega)
 have hw2:IntKind.i64.wrap (2*(slF a.sl.length s.lk.cs:Int))=2*(slF a.sl.length s.lk.cs:Int):=IntWalk.i64_in _ (by omega)
 have hmf:∀ (fn:Fn) (first cap:Array Value) (w:World),(Instr.makeFunc fn first cap).run Tryz.prog w=.ok (.func fn first cap) w:=fun _ _ _ _=>rfl
 clear h hw hl hk ho hle hc hi hl2
 have HAT:=Lh hat
 generalize avP a.sl.length { s with st:=s.st++[tg a.st c] } (2*(slF a.sl.length s.lk.cs:Int)) 2=R at*
 generalize avE a.sl.length { s with st:=s.st++[tg a.st c] } (2*(slF a.sl.length s.lk.cs:Int)) 2=E at*
 generalize (slF a.sl.length s.lk.cs:Int)=K at*
 obtain ⟨SS,hSS⟩:∃ x,x = { s with st:=s.st++[tg a.st c] }:=⟨_,rfl⟩
 rw [<-hSS] at HCH HSL HAV
 clear hSS hat
 go_enter Tryz.func59,Tryz.ntmps59
 have c1:=H0.out.rb.c 1 _ rfl
 have yl:=H0.out.rb.lt
 go_wp2_with fail
 clear c1 yl
 refine HCH.out.mono ?_
 rintro e w2 ⟨X2,Y2,rfl,hu,hb⟩
 have H2:=Lh hu
 have HB2:=Lh hb
 clear hu hb HCH H0
 go_wp2_with fail
 refine (HSL.out _ _ _ H2.out).mono ?_
 rintro e w3 ⟨rfl,rfl⟩
 go_wp2_with fail
 refine (HAV.out _ _ _ H2.out).mono ?_
 rintro e w3 ⟨X3,Y3,rfl,hu,hb⟩
 have HF:=Lh (show UrP B p t n R a E w (.returned (.int .i64 E)) w3 from ⟨X3,Y3,rfl,hu,HB2.out.trans hb⟩)
 clear hu hb HB2 H2 HSL HAV
 go_wp2
 go_ret
 exact HF.out
theorem umark_o {B p:Nat} {s:Se} {X:Sex} {a:Ar} {Y:Ax} {t n:Int} (i c:Nat) (w:World) (h:Ur B p s X a Y t n w) (hw:a.Few) (hl:s.lk.cs.length<=9) (hat:s.at_=2*(i:Int)+1) (hk:i<s.lk.cs.length) (ho:Us B p s X a Y w) (hk2:i<s.st.length) (hE:bgE (tg s.st i)=0) (hs:wi (bgT (tg s.st i)).sq 0 1099511627776=true/\wi (bgT (tg s.st i)).ep 0 1099511627776=true/\wi (bgT (tg s.st i)).rd 0 1099511627776=true/\wi (bgT (tg s.st i)).ls 0 1099511627776=true) (hsl:slE a (ig s.lk.cs i) t=0):Calls Tryz.prog 59 #[.pointer (some ⟨p,0,none⟩)] w (UrP B p t n (avP (ssA a (ig s.lk.cs i) t (bgT (tg s.st i))).sl.length { s with st:=s.st.set i (bgT (tg s.st i)) } (2*(slF (ssA a (ig s.lk.cs i) t (bgT (tg s.st i))).sl.length s.lk.cs:Int)) 2) (ssA a (ig s.lk.cs i) t (bgT (tg s.st i))) (avE (ssA a (ig s.lk.cs i) t (bgT (tg s.st i))).sl.length { s with st:=s.st.set i (bgT (tg s.st i)) } (2*(slF (ssA a (ig s.lk.cs i) t (bgT (tg s.st i))).sl.length s.lk.cs:Int)) 2) w):=by
 have HCH:=Lh (show Calls Tryz.prog 83 #[.pointer (some ⟨p,0,none⟩),.int .i64 (i:Int)] w (UrP B p t n { s with st:=s.st.set i (bgT (tg s.st i)) } (ssA a (ig s.lk.cs i) t (bgT (tg s.st i))) 0 w) from (by have k:=umarkstripe_any i w h ho hw hk hk2 hE hs;rw [hsl] at k;exact k))
 have HSL:=Lh (fun X' Y' W (k:Ur B p { s with st:=s.st.set i (bgT (tg s.st i)) } X' (ssA a (ig s.lk.cs i) t (bgT (tg s.st i))) Y' t n W)=>uslots_any W k hl)
 have HAV:=Lh (fun X' Y' W (k:Ur B p { s with st:=s.st.set i (bgT (tg s.st i)) } X' (ssA a (ig s.lk.cs i) t (bgT (tg s.st i))) Y' t n W)=>uadvance_any (2*(slF (ssA a (ig s.lk.cs i) t (bgT (tg s.st i))).sl.length s.lk.cs:Int)) 2 W k hl (by decide) (by decide) (by show -9<=s.at_/\s.at_<=1000;omega))
 have hle:=slF_le (ssA a (ig s.lk.cs i) t (bgT (tg s.st i))).sl.length s.lk.cs
 have H0:=Lh h
 have ht1:s.at_.tmod 2=1:=by rw [hat,Int.tmod_eq_emod_of_nonneg (by omega)];omega
 have ht2:s.at_.tdiv 2=(i:Int):=by rw [hat,Int.tdiv_eq_ediv_of_nonneg (by omega)];omega
 have hw1:IntKind.i64.wrap (i:Int)=(i:Int):=IntWalk.i64_in _ (by omega)
 have hw2:IntKind.i64.wrap (2*(slF (ssA a (ig s.lk.cs i) t (bgT (tg s.st i))).sl.length s.lk.cs:Int))=2*(slF (ssA a (ig s.lk.cs i) t (bgT (tg s.st i))).sl.length s.lk.cs:Int):=IntWalk.i64_in _ (by omega)
 have hmf:∀ (fn:Fn) (first cap:Array Value) (w:World),(Instr.makeFunc fn first cap).run Tryz.prog w=.ok (.func fn first cap) w:=fun _ _ _ _=>rfl
 clear h hw hl hk ho hle hk2 hE hs hsl
 have HAT:=Lh hat
 generalize avP (ssA a (ig s.lk.cs i) t (bgT (tg s.st i))).sl.length { s with st:=s.st.set i (bgT (tg s.st i)) } (2*(slF (ssA a (ig s.lk.cs i) t (bgT (tg s.st i))).sl.length s.lk.cs:Int)) 2=R at*
 generalize avE (ssA a (ig s.lk.cs i) t (bgT (tg s.st i))).sl.length { s with st:=s.st.set i (bgT (tg s.st i)) } (2*(slF (ssA a (ig s.lk.cs i) t (bgT (tg s.st i))).sl.length s.lk.cs:Int)) 2=E at*
 generalize (slF (ssA a (ig s.lk.cs i) t (bgT (tg s.st i))).sl.length s.lk.cs:Int)=K at*
 obtain ⟨SS,hSS⟩:∃ x,x = { s with st:=s.st.set i (bgT (tg s.st i)) }:=⟨_,rfl⟩
 rw [<-hSS] at HCH HSL HAV
 clear hSS hat
 go_enter Tryz.func59,Tryz.ntmps59
 have c1:=H0.out.rb.c 1 _ rfl
 have yl:=H0.out.rb.lt
 go_wp2_with fail
 clear c1 yl
 refine HCH.out.mono ?_
 rintro e w2 ⟨X2,Y2,rfl,hu,hb⟩
 have H2:=Lh hu
 have HB2:=Lh hb
 clear hu hb HCH H0
 go_wp2_with fail
 refine (HSL.out _ _ _ H2.out).mono ?_
 rintro e w3 ⟨rfl,rfl⟩
 go_wp2_with fail
 refine (HAV.out _ _ _ H2.out).mono ?_
 rintro e w3 ⟨X3,Y3,rfl,hu,hb⟩
 have HF:=Lh (show UrP B p t n R (ssA a (ig s.lk.cs i) t (bgT (tg s.st i))) E w (.returned (.int .i64 E)) w3 from ⟨X3,Y3,rfl,hu,HB2.out.trans hb⟩)
 clear hu hb HB2 H2 HSL HAV
 go_wp2
 go_ret
 exact HF.out
theorem info_sh15:(Tryz.prog.info? 72).map (fun i=>(i.zero,i.size,i.bytes))=some (some (.agg #[.bool false,.int .i64 0,.int .i64 0,.slice none 0 0,.int .i64 0,.int .i64 0,.slice none 0 0,.slice none 0 0]),8,112):=by kernel_rfl
def Se.nh (s:Se):Se:={ s with sh:=[] }
def Sex.nh (X:Sex):Sex:={ X with A:=none,c:=0,q:=[] }
def rQ (q:List Hs):List Rw15:=q.flatMap (fun h=>shRows h.S h.D)
theorem nh_of {P:Rw15->Prop} {s:Se} {X:Sex} (h:∀ r∈s.rows X,P r) (h4:P ⟨8,none,0,[]⟩):∀ r∈s.nh.rows X.nh,P r:=
 se_rows_of (s:=s.nh) (X:=X.nh) (h ⟨1,X.Al,s.lk.cs.length,ics s.lk.cs⟩ (by simp [Se.rows]))  (fun r hr=>by
  simp only [Sex.nh,hRows,hcs,List.flatMap_nil,List.mem_cons,List.not_mem_nil,or_false] at hr
  subst hr;exact h4)  (h ⟨7,X.Ad,s.dl.length,lcs s.dl⟩ (by simp [Se.rows])) (h ⟨4,X.At,s.st.length,tcs s.st⟩ (by simp [Se.rows])) (h ⟨3,X.D.A,s.dir.l.length,scs s.dir.l⟩ (by simp [Se.rows])) (h ⟨1,X.D.A2,s.dir.F.length,ics s.dir.F⟩ (by simp [Se.rows])) (h ⟨7,X.Ac,s.ca.length,lcs s.ca⟩ (by simp [Se.rows])) (fun r hr=>h r (by simp only [Se.rows,List.mem_cons,List.mem_append];exact .inr (.inr (.inr hr))))
theorem sh_off {S:Sh} {D:Sx} {p:Nat} (h:SOff S D p):ROff (shRows S D) p:=fun r hr=>by
 simp only [shRows,List.mem_cons,List.not_mem_nil,or_false] at hr
 rcases hr with rfl | rfl | rfl
 ·exact h.o1
 ·exact h.o2
 ·exact h.o3
theorem sh_nw {S:Sh} {D:Sx} {lo:Nat} (h:D.nw lo):RNw (shRows S D) lo:=fun r hr=>by
 simp only [shRows,List.mem_cons,List.not_mem_nil,or_false] at hr
 rcases hr with rfl | rfl | rfl
 ·exact h.n1
 ·exact h.n2
 ·exact h.n3
theorem hrows_of {P:Rw15->Prop} {A:Option Addr} {q:List Hs} (h1:P ⟨8,A,q.length,hcs q⟩) (h2:∀ r∈rQ q,P r):∀ r∈hRows A q,P r:=fun r hr=>by
 rcases List.mem_cons.1 hr with rfl | h
 ·exact h1
 ·exact h2 r h
theorem rq_app {q:List Hs} {d:Hs}:rQ (q++[d])=rQ q++shRows d.S d.D:=by simp [rQ]
theorem hcs_app {q:List Hs} {d:Hs}:hcs (q++[d])=hcs q++d.l:=by simp [hcs]
theorem rq_mem {s:Se} {X:Sex}:∀ r∈rQ X.q,r∈s.rows X:=fun r hr=>by
 simp only [Se.rows,List.mem_cons,List.mem_append]
 exact .inr (.inl (List.mem_cons_of_mem _ hr))
structure Uo (B p:Nat) (s:Se) (X:Sex) (a:Ar) (Y:Ax) (W:World):Prop where
 own:W.ownsRow B 72 8 (.slice X.A s.sh.length X.c) s.sh.length (hcs X.q)
 off:∀ b,(Value.slice X.A s.sh.length X.c).ownBlock=some b->b≠p/\AOff a Y b/\ROff (s.nh.rows X.nh) b/\ROff (rQ X.q) b
section
variable {W W' : World} {B p g1 c1:Nat} {s:Se} {X:Sex} {a:Ar} {Y:Ax} {t n:Int} {S:Sh} {D:Sx}
theorem Uo.up (h:Uo B p s X a Y W) (hb:Below W.heap.size W W'):Uo B p s X a Y W':=⟨own_up10 h.own hb,h.off⟩
theorem Ur.qlen (h:Ur B p s X a Y t n W):X.q.length=s.sh.length:=by rw [<-h.se.ok.q];simp
theorem Ur.apH (h:Ur B p s X a Y t n W) (ho:Uo B p s X a Y W) (hs:SR W W.heap.size S D) (hop:SOff S D p) (hob:∀ b,(Value.slice X.A s.sh.length X.c).ownBlock=some b->SOff S D b) (hn:D.nw B)
  (hown:W'.ownsRow B 72 8 (.slice (some ⟨g1,0,none⟩) (s.sh.length+1) c1) (s.sh.length+1) (hcs X.q++[.bool S.lv,.int .i64 S.lo,.int .i64 S.hi,.slice D.A S.cs.length D.c,.int .i64 S.hd,.int .i64 S.sz,.slice D.A2 S.l.length D.c2,.slice D.A3 S.h.length D.c3])) (hg:W.grownBy W' (Value.slice X.A s.sh.length X.c).ownBlock) (hat:(Value.slice X.A s.sh.length X.c).ownBlock=some g1\/g1=W.heap.size) :
  Ur B p { s with sh:=s.sh++[S] } { X with A:=some ⟨g1,0,none⟩,c:=c1,q:=X.q++[⟨S,D⟩] } a Y t n (W'.setCell ⟨p,11,none⟩ (.slice (some ⟨g1,0,none⟩) (s.sh.length+1) c1))/\Below B W (W'.setCell ⟨p,11,none⟩ (.slice (some ⟨g1,0,none⟩) (s.sh.length+1) c1)):=by
 have hgp:g1≠p:=by
  rcases hat with e | e
  ·exact (ho.off _ e).1
  ·have:=h.lt;omega
 have hgB:B<=g1:=by
  rcases hat with e | e
  ·exact (ho.own.lt _ e).1
  ·have:=h.lt;have:=h.ne;omega
 have hql:=h.qlen
 have e1:(s.sh++[S]).length=s.sh.length+1:=by simp
 have e3:(X.q++[(⟨S,D⟩:Hs)]).length=s.sh.length+1:=by simp [hql]
 have e2:hcs (X.q++[(⟨S,D⟩:Hs)])=hcs X.q++[.bool S.lv,.int .i64 S.lo,.int .i64 S.hi,.slice D.A S.cs.length D.c,.int .i64 S.hd,.int .i64 S.sz,.slice D.A2 S.l.length D.c2,.slice D.A3 S.h.length D.c3]:=hcs_app
 have hno:RR W W.heap.size (s.nh.rows X.nh):=nh_of h.se.r (Rd.nil none)
 have hno':=hno.grownN hg (fun b e=>(ho.off b e).2.2.1)
 have hnp:ROff (s.nh.rows X.nh) p:=nh_of h.so (offb_0 _ _)
 have hnn:RNw (s.nh.rows X.nh) B:=nh_of h.sn nw_none
 have hno2:RR (W'.setCell ⟨p,11,none⟩ (.slice (some ⟨g1,0,none⟩) (s.sh.length+1) c1)) W'.heap.size (s.nh.rows X.nh):=hno'.offp (q:=⟨p,11,none⟩) hnp _
 have hq0:RR W W.heap.size (rQ X.q++shRows S D):=(h.se.r.sub rq_mem).app hs.rr.1
 have hqo:∀ b,(Value.slice X.A s.sh.length X.c).ownBlock=some b->ROff (rQ X.q++shRows S D) b:=fun b e=>(ho.off b e).2.2.2.app (sh_off (hob b e))
 have hqp:ROff (rQ X.q++shRows S D) p:=(h.so.sub rq_mem).app (sh_off hop)
 have hqn:RNw (rQ X.q++shRows S D) B:=(h.sn.sub rq_mem).app (sh_nw hn)
 rw [<-rq_app (d:=⟨S,D⟩)] at hq0 hqo hqp hqn
 have hq2:RR (W'.setCell ⟨p,11,none⟩ (.slice (some ⟨g1,0,none⟩) (s.sh.length+1) c1)) W'.heap.size (rQ (X.q++[⟨S,D⟩])):=(hq0.grownN hg hqo).offp (q:=⟨p,11,none⟩) hqp _
 have hop2:OffB p (s.sh.length+1) (some ⟨g1,0,none⟩):=fun _ q e=>by injection e with e;subst e;exact hgp
 have hrw:Rd W' W'.heap.size 8 (some ⟨g1,0,none⟩) (s.sh.length+1) (hcs (X.q++[⟨S,D⟩])):=by rw [e2];exact Rd.of_own hown
 have hrw2:Rd (W'.setCell ⟨p,11,none⟩ (.slice (some ⟨g1,0,none⟩) (s.sh.length+1) c1)) W'.heap.size 8 (some ⟨g1,0,none⟩) (X.q++[(⟨S,D⟩:Hs)]).length (hcs (X.q++[⟨S,D⟩])):=by rw [e3];exact hrw.offp hop2 _
 have hrb:Rb (W'.setCell ⟨p,11,none⟩ (.slice (some ⟨g1,0,none⟩) (s.sh.length+1) c1)) p (rcl { s with sh:=s.sh++[S] } { X with A:=some ⟨g1,0,none⟩,c:=c1,q:=X.q++[⟨S,D⟩] } a Y t n):=by
  have k:=(h.rb.grownN hg (fun b e=>(ho.off b e).1)).set (j:=11) (by rw [rcl_len];omega) (.slice (some ⟨g1,0,none⟩) (s.sh.length+1) c1)
  rw [<-e1] at k ⊢
  exact k
 have hsz:(W'.setCell ⟨p,11,none⟩ (.slice (some ⟨g1,0,none⟩) (s.sh.length+1) c1)).heap.size=W'.heap.size:=by simp
 obtain ⟨g,cap,cur,hv,-,-,hc1,hc2,-⟩:=(show W'.ownsRow B 72 8 (.slice (some ⟨g1,0,none⟩) (s.sh.length+1) c1) (s.sh.length+1) _ from hown).2.resolve_left (fun e=>by simp at e)
 have hcp:s.sh.length+1<=c1/\c1<=maxLen:=by injection hv with _ _ e3;subst e3;exact ⟨hc1,hc2⟩
 refine ⟨⟨hrb,?_,?_,?_,?_,h.ao,h.an,h.ne⟩,?_⟩
 ·rw [hsz]
  refine ⟨se_rows_of (hno2 ⟨1,X.Al,s.lk.cs.length,ics s.lk.cs⟩ (by simp [Se.rows,Se.nh,Sex.nh])) (hrows_of hrw2 hq2) (hno2 ⟨7,X.Ad,s.dl.length,lcs s.dl⟩ (by simp [Se.rows,Se.nh,Sex.nh])) (hno2 ⟨4,X.At,s.st.length,tcs s.st⟩ (by simp [Se.rows,Se.nh,Sex.nh])) (hno2 ⟨3,X.D.A,s.dir.l.length,scs s.dir.l⟩ (by simp [Se.rows,Se.nh,Sex.nh])) (hno2 ⟨1,X.D.A2,s.dir.F.length,ics s.dir.F⟩ (by simp [Se.rows,Se.nh,Sex.nh])) (hno2 ⟨7,X.Ac,s.ca.length,lcs s.ca⟩ (by simp [Se.rows,Se.nh,Sex.nh])) (fun r hr=>hno2 r (by simp only [Se.rows,Se.nh,Sex.nh,List.mem_cons,List.mem_append];exact .inr (.inr (.inr hr)))),⟨by show (X.q++[(⟨S,D⟩:Hs)]).map Hs.S=s.sh++[S];rw [List.map_append,h.se.ok.q];rfl,fun x hx=>?_,⟨h.se.ok.c.1,⟨by show (s.sh++[S]).length<=c1;rw [e1];exact hcp.1,hcp.2⟩,h.se.ok.c.2.2⟩,h.se.ok.o⟩⟩
  rcases List.mem_append.1 hx with h1 | h1
  ·exact h.se.ok.qc x h1
  ·obtain rfl:x=⟨S,D⟩:=by simpa using h1
   exact hs.rr.2
 ·exact se_rows_of (hnp ⟨1,X.Al,s.lk.cs.length,ics s.lk.cs⟩ (by simp [Se.rows,Se.nh,Sex.nh])) (hrows_of (by rw [e3];exact hop2) hqp) (hnp ⟨7,X.Ad,s.dl.length,lcs s.dl⟩ (by simp [Se.rows,Se.nh,Sex.nh])) (hnp ⟨4,X.At,s.st.length,tcs s.st⟩ (by simp [Se.rows,Se.nh,Sex.nh])) (hnp ⟨3,X.D.A,s.dir.l.length,scs s.dir.l⟩ (by simp [Se.rows,Se.nh,Sex.nh])) (hnp ⟨1,X.D.A2,s.dir.F.length,ics s.dir.F⟩ (by simp [Se.rows,Se.nh,Sex.nh])) (hnp ⟨7,X.Ac,s.ca.length,lcs s.ca⟩ (by simp [Se.rows,Se.nh,Sex.nh])) (fun r hr=>hnp r (by simp only [Se.rows,Se.nh,Sex.nh,List.mem_cons,List.mem_append];exact .inr (.inr (.inr hr))))
 ·exact se_rows_of (hnn ⟨1,X.Al,s.lk.cs.length,ics s.lk.cs⟩ (by simp [Se.rows,Se.nh,Sex.nh])) (hrows_of (fun a e=>by injection e with e;subst e;exact hgB) hqn) (hnn ⟨7,X.Ad,s.dl.length,lcs s.dl⟩ (by simp [Se.rows,Se.nh,Sex.nh])) (hnn ⟨4,X.At,s.st.length,tcs s.st⟩ (by simp [Se.rows,Se.nh,Sex.nh])) (hnn ⟨3,X.D.A,s.dir.l.length,scs s.dir.l⟩ (by simp [Se.rows,Se.nh,Sex.nh])) (hnn ⟨1,X.D.A2,s.dir.F.length,ics s.dir.F⟩ (by simp [Se.rows,Se.nh,Sex.nh])) (hnn ⟨7,X.Ac,s.ca.length,lcs s.ca⟩ (by simp [Se.rows,Se.nh,Sex.nh])) (fun r hr=>hnn r (by simp only [Se.rows,Se.nh,Sex.nh,List.mem_cons,List.mem_append];exact .inr (.inr (.inr hr))))
 ·rw [hsz]
  exact ((h.ar.grownN15 hg (fun b e=>(ho.off b e).2.1)).offp (q:=⟨p,11,none⟩) h.ao _)
 ·exact ((Below.refl B W).grown hg (Nat.le_trans h.ne (Nat.le_of_lt h.lt)) (fun k e=>(ho.own.lt k e).1)).setCell (p:=⟨p,11,none⟩) h.ne _
end
theorem sh_one (S:Sh) (D:Sx):∀ u∈([.bool S.lv,.int .i64 S.lo,.int .i64 S.hi,.slice D.A S.cs.length D.c,.int .i64 S.hd,.int .i64 S.sz,.slice D.A2 S.l.length D.c2,.slice D.A3 S.h.length D.c3]:List Value),u.oneCell' = true:=by
 intro u hu
 simp only [List.mem_cons,List.not_mem_nil,or_false] at hu
 rcases hu with rfl | rfl | rfl | rfl | rfl | rfl | rfl | rfl <;> rfl
theorem uload_d {B p:Nat} {s:Se} {X:Sex} {a:Ar} {Y:Ax} {t n:Int} (i:Nat) (w:World) (h:Ur B p s X a Y t n w) (hw:a.Few) (hl:s.lk.cs.length<=9) (hat:s.at_=(i:Int)) (hk:i<s.lk.cs.length) (hc:ig s.lk.cs i=(a.sl.length:Int)):Calls Tryz.prog 60 #[.pointer (some ⟨p,0,none⟩)] w (UrP B p t n (avP a.sl.length { s with dc:=a.cap,dl:=a.dl } (s.lk.cs.length:Int) 3) a (avE a.sl.length { s with dc:=a.cap,dl:=a.dl } (s.lk.cs.length:Int) 3) w):=by
 have HC:=Lh (ucell_any i w h hk)
 have HD:=Lh (fun x=>uisdead_any x w h)
 have HAV:=Lh (fun X' W (k:Ur B p { s with dc:=a.cap,dl:=a.dl } X' a Y t n W)=>uadvance_any (s.lk.cs.length:Int) 3 W k hl (by decide) (by decide) (by show -9<=s.at_/\s.at_<=1000;omega))
 have H0:=Lh h
 have HLK:=Lh hl
 have HLD:=Lh (aloaddead_any a Y w h.ar hw)
 have hdd:(ig s.lk.cs i==(a.sl.length:Int))=true:=by simp [hc]
 generalize avP a.sl.length { s with dc:=a.cap,dl:=a.dl } (s.lk.cs.length:Int) 3=R at*
 generalize avE a.sl.length { s with dc:=a.cap,dl:=a.dl } (s.lk.cs.length:Int) 3=E at*
 generalize ig s.lk.cs i=C at*
 clear h hw hl hk hc
 go_enter Tryz.func60,Tryz.ntmps60
 have c1:=H0.out.rb.c 1 _ rfl
 rw [hat] at c1
 have yl:=H0.out.rb.lt
 clear hat
 go_wp2_with fail
 refine HC.out.mono ?_
 rintro e w1 ⟨rfl,rfl⟩
 go_wp2_with fail
 refine (HD.out _).mono ?_
 rintro e w1 ⟨rfl,rfl⟩
 have c26:=H0.out.rb.c 26 _ rfl
 have c27:=H0.out.rb.c 27 _ rfl
 have c28:=H0.out.rb.c 28 _ rfl
 have c29:=H0.out.rb.c 29 _ rfl
 have c30:=H0.out.rb.c 30 _ rfl
 have c31:=H0.out.rb.c 31 _ rfl
 have c32:=H0.out.rb.c 32 _ rfl
 have c33:=H0.out.rb.c 33 _ rfl
 have c34:=H0.out.rb.c 34 _ rfl
 have c35:=H0.out.rb.c 35 _ rfl
 have c36:=H0.out.rb.c 36 _ rfl
 go_wp2_with fail
 clear c1 yl c26 c27 c28 c29 c30 c31 c32 c33 c34 c35 c36
 refine HLD.out.mono ?_
 rintro e w2 ⟨A,c,rfl,hn,hls,hb⟩
 have H1:=Lh (H0.out.up hb)
 have H2:=Lh (H1.out.dea (x:=a.cap) hls (offb_nw hn H0.out.lt) (nw_low hn (Nat.le_trans H0.out.ne (Nat.le_of_lt H0.out.lt))))
 have HB2:=Lh (show Below B w ((w2.setCell ⟨p,12,none⟩ (.int .i64 a.cap)).setCell ⟨p,13,none⟩ (.slice A a.dl.length c)) from ((hb.mono (Nat.le_trans H0.out.ne (Nat.le_of_lt H0.out.lt))).setCell (p:=⟨p,12,none⟩) H0.out.ne _).setCell (p:=⟨p,13,none⟩) H0.out.ne _)
 clear hn hls hb HLD HC HD H0
 have c12:=H1.out.rb.c 12 _ rfl
 have c13:=H1.out.rb.c 13 _ rfl
 have f12:=H1.out.rb.f 12
 have f13:=H1.out.rb.f 13
 have yl:=H1.out.rb.lt
 go_upto_region 8 with (fail)
 clear c12 c13 f12 f13 yl H1
 generalize (w2.setCell ⟨p,12,none⟩ (.int .i64 a.cap)).setCell ⟨p,13,none⟩ (.slice A a.dl.length c)=w3 at*
 have c2:=H2.out.rb.c 2 _ rfl
 have yl:=H2.out.rb.lt
 simp only at c2
 go_wp2_with fail
 clear c2 yl
 refine (HAV.out _ _ H2.out).mono ?_
 rintro e wz ⟨X3,Y3,rfl,hu,hb⟩
 have HF:=Lh (show UrP B p t n R a E w (.returned (.int .i64 E)) wz from ⟨X3,Y3,rfl,hu,HB2.out.trans hb⟩)
 clear hu hb HB2 H2 HAV
 go_wp2
 go_ret
 exact HF.out
theorem uload_s {B p:Nat} {s:Se} {X:Sex} {a:Ar} {Y:Ax} {t n:Int} (i:Nat) (w:World) (h:Ur B p s X a Y t n w) (hw:a.Few) (hl:s.lk.cs.length<=9) (hat:s.at_=(i:Int)) (hk:i<s.lk.cs.length) (c:Nat) (ho:Uo B p s X a Y w) (hc:ig s.lk.cs i=(c:Int)) (hi:islB a (c:Int)=true) (hl2:s.sh.length<=9):Calls Tryz.prog 60 #[.pointer (some ⟨p,0,none⟩)] w (UrP B p t n (avP a.sl.length { s with sh:=s.sh++[(og a.sl c).sh] } (s.lk.cs.length:Int) 3) a (avE a.sl.length { s with sh:=s.sh++[(og a.sl c).sh] } (s.lk.cs.length:Int) 3) w):=by
 have HC:=Lh (ucell_any i w h hk)
 have HD:=Lh (fun x=>uisdead_any x w h)
 have HAV:=Lh (fun X' W (k:Ur B p { s with sh:=s.sh++[(og a.sl c).sh] } X' a Y t n W)=>uadvance_any (s.lk.cs.length:Int) 3 W k hl (by decide) (by decide) (by show -9<=s.at_/\s.at_<=1000;omega))
 have H0:=Lh h
 have HLK:=Lh hl
 have HLS:=Lh (aloadslot_any a Y (c:Int) w h.ar hw)
 have hdd:((c:Int)==(a.sl.length:Int))=false:=by have:=isl_nat hi;simp;omega
 have HO:=Lh ho
 have hS:ldS a (c:Int)=(og a.sl c).sh:=if_pos hi
 have hE0:ldE a (c:Int)=0:=if_pos hi
 have HLN:=Lh hl2
 rw [hS,hE0] at HLS
 rw [hc] at HC
 obtain ⟨S,hSS⟩:∃ x,x=(og a.sl c).sh:=⟨_,rfl⟩
 rw [<-hSS] at HLS HAV ⊢
 generalize avP a.sl.length { s with sh:=s.sh++[S] } (s.lk.cs.length:Int) 3=R at*
 generalize avE a.sl.length { s with sh:=s.sh++[S] } (s.lk.cs.length:Int) 3=E at*
 clear h hw hl hk hc hi ho hS hE0 hSS hl2
 obtain ⟨i0,hi0,hz0⟩:=Option.map_eq_some_iff.1 info_sh15
 simp only [Prod.mk.injEq] at hz0
 have HI:=Lh hi0
 have HZ:=Lh hz0
 clear hi0 hz0
 go_enter Tryz.func60,Tryz.ntmps60
 have c1:=H0.out.rb.c 1 _ rfl
 rw [hat] at c1
 have yl:=H0.out.rb.lt
 clear hat
 go_wp2_with fail
 refine HC.out.mono ?_
 rintro e w1 ⟨rfl,rfl⟩
 go_wp2_with fail
 refine (HD.out _).mono ?_
 rintro e w1 ⟨rfl,rfl⟩
 have c26:=H0.out.rb.c 26 _ rfl
 have c27:=H0.out.rb.c 27 _ rfl
 have c28:=H0.out.rb.c 28 _ rfl
 have c29:=H0.out.rb.c 29 _ rfl
 have c30:=H0.out.rb.c 30 _ rfl
 have c31:=H0.out.rb.c 31 _ rfl
 have c32:=H0.out.rb.c 32 _ rfl
 have c33:=H0.out.rb.c 33 _ rfl
 have c34:=H0.out.rb.c 34 _ rfl
 have c35:=H0.out.rb.c 35 _ rfl
 have c36:=H0.out.rb.c 36 _ rfl
 go_wp2_with fail
 clear c1 yl c26 c27 c28 c29 c30 c31 c32 c33 c34 c35 c36
 refine HLS.out.mono ?_
 rintro e w2 ⟨D,rfl,hn,hsr,hb⟩
 have hal:=(Below.refl w2.heap.size w2).alloc (nLR _) (.cells #[.bool S.lv,.int .i64 S.lo,.int .i64 S.hi,.slice D.A S.cs.length D.c,.int .i64 S.hd,.int .i64 S.sz,.slice D.A2 S.l.length D.c2,.slice D.A3 S.h.length D.c3] 72)
 have HU:=Lh (SB8.start w2 S D 72)
 have HSH:=Lh (show SR (w2.alloc (.cells #[.bool S.lv,.int .i64 S.lo,.int .i64 S.hi,.slice D.A S.cs.length D.c,.int .i64 S.hd,.int .i64 S.sz,.slice D.A2 S.l.length D.c2,.slice D.A3 S.h.length D.c3] 72)) (w2.alloc (.cells #[.bool S.lv,.int .i64 S.lo,.int .i64 S.hi,.slice D.A S.cs.length D.c,.int .i64 S.hd,.int .i64 S.sz,.slice D.A2 S.l.length D.c2,.slice D.A3 S.h.length D.c3] 72)).heap.size S D/\D.nw B/\SOff S D p/\(∀ b,(Value.slice X.A s.sh.length X.c).ownBlock=some b->SOff S D b) from ⟨(hsr.below hal).more hal.size,hn.low (Nat.le_trans H0.out.ne (Nat.le_of_lt H0.out.lt)),hn.off H0.out.lt,fun b e=>hn.off (HO.out.own.lt b e).2⟩)
 have HPU:=Lh (show p<w2.heap.size from Nat.lt_of_lt_of_le H0.out.lt hb.size)
 have HB1:=Lh (show Below B w (w2.alloc (.cells #[.bool S.lv,.int .i64 S.lo,.int .i64 S.hi,.slice D.A S.cs.length D.c,.int .i64 S.hd,.int .i64 S.sz,.slice D.A2 S.l.length D.c2,.slice D.A3 S.h.length D.c3] 72)) from (hb.trans (hal.mono hb.size)).mono (Nat.le_trans H0.out.ne (Nat.le_of_lt H0.out.lt)))
 have H1:=Lh ((H0.out.up hb).up hal)
 have HO1:=Lh ((HO.out.up hb).up hal)
 clear hn hsr hb hal H0 HO HLS HC HD
 go_upto_region 7 with (fail)
 obtain ⟨u,hu⟩:∃ q,q=w2.heap.size:=⟨_,rfl⟩
 rw [<-hu] at HU HPU ⊢
 clear hu
 generalize w2.alloc (.cells #[.bool S.lv,.int .i64 S.lo,.int .i64 S.hi,.slice D.A S.cs.length D.c,.int .i64 S.hd,.int .i64 S.sz,.slice D.A2 S.l.length D.c2,.slice D.A3 S.h.length D.c3] 72)=w1 at*
 obtain ⟨u0,u1,u2,u3,u4,u5,u6,u7,ul⟩:=HU.out.facts
 have c11:=H1.out.rb.c 11 _ rfl
 have f11:=H1.out.rb.f 11
 have yl:=H1.out.rb.lt
 have npu:¬p=u:=Nat.ne_of_lt HPU.out
 have nup:¬u=p:=fun e=>npu e.symm
 have HA1:=Lh (show (Ur B p s X a Y t n (w1.drew.alloc (.cells #[.bool S.lv,.int .i64 S.lo,.int .i64 S.hi,.slice D.A S.cs.length D.c,.int .i64 S.hd,.int .i64 S.sz,.slice D.A2 S.l.length D.c2,.slice D.A3 S.h.length D.c3] 72))/\Uo B p s X a Y (w1.drew.alloc (.cells #[.bool S.lv,.int .i64 S.lo,.int .i64 S.hi,.slice D.A S.cs.length D.c,.int .i64 S.hd,.int .i64 S.sz,.slice D.A2 S.l.length D.c2,.slice D.A3 S.h.length D.c3] 72)))/\SR (w1.drew.alloc (.cells #[.bool S.lv,.int .i64 S.lo,.int .i64 S.hi,.slice D.A S.cs.length D.c,.int .i64 S.hd,.int .i64 S.sz,.slice D.A2 S.l.length D.c2,.slice D.A3 S.h.length D.c3] 72)) (w1.drew.alloc (.cells #[.bool S.lv,.int .i64 S.lo,.int .i64 S.hi,.slice D.A S.cs.length D.c,.int .i64 S.hd,.int .i64 S.sz,.slice D.A2 S.l.length D.c2,.slice D.A3 S.h.length D.c3] 72)).heap.size S D/\Below B w (w1.drew.alloc (.cells #[.bool S.lv,.int .i64 S.lo,.int .i64 S.hi,.slice D.A S.cs.length D.c,.int .i64 S.hd,.int .i64 S.sz,.slice D.A2 S.l.length D.c2,.slice D.A3 S.h.length D.c3] 72)) from ⟨⟨H1.out.up (bal (bdr (Below.refl _ _)) _),HO1.out.up (bal (bdr (Below.refl _ _)) _)⟩,(HSH.out.1.below (bal (bdr (Below.refl _ _)) (.cells #[.bool S.lv,.int .i64 S.lo,.int .i64 S.hi,.slice D.A S.cs.length D.c,.int .i64 S.hd,.int .i64 S.sz,.slice D.A2 S.l.length D.c2,.slice D.A3 S.h.length D.c3] 72))).more (bal (bdr (Below.refl w1.heap.size w1)) (.cells #[.bool S.lv,.int .i64 S.lo,.int .i64 S.hi,.slice D.A S.cs.length D.c,.int .i64 S.hd,.int .i64 S.sz,.slice D.A2 S.l.length D.c2,.slice D.A3 S.h.length D.c3] 72)).size,HB1.out.drew.alloc (show B<=w1.heap.size from Nat.le_trans H1.out.ne (Nat.le_of_lt H1.out.lt)) _⟩)
 go_region_law (refine step_append_lies _ (by rfl) _ _ _ (by rfl) B 72 i0 _ 8 112 Tryz.underlying48 HI.out HZ.out.1 HZ.out.2.1 HZ.out.2.2 rfl (by omega) (.slice X.A s.sh.length X.c) s.sh.length (hcs X.q) (by rfl) HA1.out.1.2.own ⟨w1.heap.size,0,none⟩ 1 1 [.bool S.lv,.int .i64 S.lo,.int .i64 S.hi,.slice D.A S.cs.length D.c,.int .i64 S.hd,.int .i64 S.sz,.slice D.A2 S.l.length D.c2,.slice D.A3 S.h.length D.c3] (by rfl) (by rfl) (World.news_of_block (cs:=[.bool S.lv,.int .i64 S.lo,.int .i64 S.hi,.slice D.A S.cs.length D.c,.int .i64 S.hd,.int .i64 S.sz,.slice D.A2 S.l.length D.c2,.slice D.A3 S.h.length D.c3].toArray) (t:=72) (fr:=(0,0)) (heap_alloc_new w1.drew _)) (sh_one S D) (by omega) (by have:=HLN.out;unfold maxLen;omega) (by have:=HLN.out;omega) (Nat.le_trans HA1.out.1.1.ne (Nat.le_of_lt HA1.out.1.1.lt)) _ rfl ?_;intro g1 cp1 w8 hown1 hgrow1 hat1 hlt1;have HP8:=Lh (HA1.out.1.1.apH HA1.out.1.2 HA1.out.2.1 HSH.out.2.2.1 HSH.out.2.2.2 HSH.out.2.1 hown1 hgrow1 hat1);have c11:=(HA1.out.1.1.rb.grownN hgrow1 (fun b e=>(HA1.out.1.2.off b e).1)).c 11 _ rfl;have f11:=(HA1.out.1.1.rb.grownN hgrow1 (fun b e=>(HA1.out.1.2.off b e).1)).f 11;have yl:=(HA1.out.1.1.rb.grownN hgrow1 (fun b e=>(HA1.out.1.2.off b e).1)).lt;clear hown1 hgrow1 hat1 hlt1)
 all_goals
  have HB2:=Lh (HA1.out.2.2.trans HP8.out.2)
  have H2:=Lh HP8.out.1
  clear H1 HO1 HA1 HP8 HU HSH HB1 u0 u1 u2 u3 u4 u5 u6 u7 ul c11 f11 yl npu nup
  generalize w8.setCell ⟨p,11,none⟩ (.slice (some ⟨g1,0,none⟩) (s.sh.length+1) cp1)=w9 at*
  have c2:=H2.out.rb.c 2 _ rfl
  have yl:=H2.out.rb.lt
  simp only at c2
  go_wp2_with fail
  clear c2 yl
  refine (HAV.out _ _ H2.out).mono ?_
  rintro e wz ⟨X3,Y3,rfl,hu,hb⟩
  have HF:=Lh (show UrP B p t n R a E w (.returned (.int .i64 E)) wz from ⟨X3,Y3,rfl,hu,HB2.out.trans hb⟩)
  clear hu hb HB2 H2 HAV
  go_wp2
  go_ret
  exact HF.out
theorem hs_one (d:Hs):∀ u∈d.l,u.oneCell' = true:=sh_one d.S d.D
theorem hcs_one (l:List Hs):∀ u∈hcs l,u.oneCell' = true:=by
 intro u hu
 obtain ⟨M,_,h⟩:=List.mem_flatMap.1 hu
 exact hs_one M u h
theorem hs_app_set (s:Hs) (X:List Value) (k:Nat) (v:Value):(s.l++X).set (8+k) v=s.l++X.set k v:=by
 rw [List.set_append_right _ _ (by show 8<=8+k;omega),show s.l.length=8 from rfl,Nat.add_sub_cancel_left]
theorem hcs_set (Q:List Hs) (i:Nat) (S:Sh) (E:Sx) (h:i<Q.length):(((((((((hcs Q).set (i*8) (.bool S.lv)).set (i*8+1) (.int .i64 S.lo)).set (i*8+2) (.int .i64 S.hi)).set (i*8+3) (.slice E.A S.cs.length E.c)).set (i*8+4) (.int .i64 S.hd)).set (i*8+5) (.int .i64 S.sz)).set (i*8+6) (.slice E.A2 S.l.length E.c2)).set (i*8+7) (.slice E.A3 S.h.length E.c3))=hcs (Q.set i ⟨S,E⟩):=by
 induction Q generalizing i with
 | nil=>simp at h
 | cons s Q ih=>
  cases i with
  | zero=>rfl
  | succ i=>
   have h' : i<Q.length:=by simpa using h
   have e0:(i+1)*8=8+i*8:=by omega
   have e:∀ k,(i+1)*8+k=8+(i*8+k):=fun k=>by omega
   rw [hcs_cons,List.set_cons_succ,hcs_cons,<-ih i h',e 1,e 2,e 3,e 4,e 5,e 6,e 7,e0,hs_app_set,hs_app_set,hs_app_set,hs_app_set,hs_app_set,hs_app_set,hs_app_set,hs_app_set]
theorem hcs_at (l:List Hs) (k j:Nat) (hk:k<l.length) (hj:j<8):(hcs l)[k*8+j]? = l[k].l[j]?:=by
 induction l generalizing k with
 | nil=>simp at hk
 | cons d q ih=>
  cases k with
  | zero=>rw [hcs_cons,Nat.zero_mul,Nat.zero_add,List.getElem?_append_left (show j<d.l.length from hj)];rfl
  | succ k=>
   have hl:d.l.length=8:=rfl
   rw [hcs_cons,List.getElem?_append_right (by rw [hl];omega),hl,show (k+1)*8+j - 8=k*8+j by omega]
   exact ih k (by simpa using hk)
def HClP (w:World) (q:List Hs) (e:Ending) (w' : World):Prop:=∃ v,e=.returned v/\w'.ownsRow w.heap.size 72 8 v q.length (hcs q)/\Below w.heap.size w w'
theorem hclone_end {w w1:World} {l:List Hs} {v1:Value} {o:Obj} (hown:w1.ownsRow w.heap.size 72 8 v1 (0+l.length) ([]++hcs l)) (hg:(w.alloc o).grownBy w1 (Value.ownBlock (.slice (some ⟨w.heap.size,0,none⟩) 0 0))):HClP w l (.returned v1) w1:=by
 rw [Nat.zero_add,List.nil_append] at hown
 exact ⟨v1,rfl,hown,(((Below.refl _ _).alloc (nLR _) o)).grown hg (by simp) (fun k hk=>by simp [Value.ownBlock] at hk;omega)⟩
theorem hclone_any (A:Option Addr) (c:Nat) (l:List Hs) (w:World) (hv:Rd w w.heap.size 8 A l.length (hcs l)) (h2:l.length<=1000) :
  Calls Tryz.prog 75 #[.slice A l.length c] w (HClP w l):=by
 obtain ⟨i0,hi0,hz0⟩:=Option.map_eq_some_iff.1 info_sh15
 simp only [Prod.mk.injEq] at hz0
 have HI:=Lh hi0
 have HZ:=Lh hz0
 have heq:∀ W,(binOp .eql 48 (.slice A l.length c) (.slice none 0 0)).run Tryz.prog W=.ok (.bool A.isNone) W:=fun W=>Lib.run_eql_slice_nil W _ _ _ _ _ _ _ Tryz.underlying48
 have HRD:=Lh hv
 clear hv hi0 hz0
 cases A with
 | none=>
  have hl:l=[]:=by
   cases l with
   | nil=>rfl
   | cons d l=>obtain ⟨b,o,e,_⟩:=HRD.out.2 (by simp);cases e
  subst hl
  have HP:=Lh (show HClP w [] (.returned (.slice none 0 0)) w from ⟨_,rfl,World.ownsRow_nil w _ _ _,Below.refl _ _⟩)
  simp only [List.length_nil,Option.isNone_none] at heq ⊢
  go_enter Tryz.func75,Tryz.ntmps75
  go_wp2
  go_ret
  exact HP.out
 | some a=>
  simp only [Option.isNone_some] at heq
  go_enter Tryz.func75,Tryz.ntmps75
  go_wp2_with (at_builtin;refine wpList_append_rd _ rfl (.tmp 5) (.tmp 6) 48 rfl w.heap.size 72 i0 _ 8 112 Tryz.underlying48 HI.out HZ.out.1 HZ.out.2.1 HZ.out.2.2 rfl (by omega) (.slice (some ⟨w.heap.size,0,none⟩) 0 0) 0 [] rfl (World.ownsRow_made w #[] 0 (nLR _) (Nat.zero_le _) rfl) w.heap.size (some a) l.length c (hcs l) rfl (HRD.out.below ((Below.refl _ _).alloc (nLR _) _)) (hcs_one l) (by unfold maxLen;omega) (by omega) (by simp) ?_;intro v1 w1 hown1 hg1 hat1)
  have HP:=Lh (hclone_end hown1 hg1)
  clear hown1 hg1 hat1
  go_wp2
  go_ret
  exact HP.out
theorem info_ed15:(Tryz.prog.info? 126).map (fun i=>(i.zero,i.size,i.bytes))=some (some (.agg #[.int .i64 0,.int .i64 0,.int .i64 0,.int .i64 0]),4,32):=by kernel_rfl
def EdV (w:World) (l:List Ed) (e:Ending) (w' : World):Prop:=∃ A c,e=.returned (.slice A l.length c)/\Nw w.heap.size A/\(Cp l.length c/\Rd w' w'.heap.size 4 A l.length (edcs l))/\Below w.heap.size w w'
theorem edclone_end {w w1:World} {v1:Value} {o:Obj} (hown:w1.ownsRow w.heap.size 126 4 v1 (0+0) ([]++[])) (hg:(w.alloc o).grownBy w1 (Value.ownBlock (.slice (some ⟨w.heap.size,0,none⟩) 0 0))):EdV w [] (.returned v1) w1:=by
 have hb:=(((Below.refl w.heap.size w).alloc (nLR _) o)).grown hg (by simp) (fun k hk=>by simp [Value.ownBlock] at hk;omega)
 obtain ⟨A,c,rfl⟩:=own_form hown
 refine ⟨A,c,rfl,nwv_of (nwv_own hown (nLR _)),⟨?_,Rd.nil A⟩,hb⟩
 rcases hown.2 with ⟨hv,h0⟩ | ⟨g,cap,cur,hv,_,_,hl,hm,_⟩
 ·injection hv with _ _ e3
  subst e3
  exact cp0
 ·injection hv with _ _ e3
  subst e3
  exact ⟨hl,hm⟩
theorem edclone_any (A:Option Addr) (c:Nat) (l:List Ed) (w:World) (hl:l=[]):Calls Tryz.prog 50 #[.slice A l.length c] w (EdV w l):=by
 subst hl
 obtain ⟨i0,hi0,hz0⟩:=Option.map_eq_some_iff.1 info_ed15
 simp only [Prod.mk.injEq] at hz0
 have HI:=Lh hi0
 have HZ:=Lh hz0
 have heq:∀ W,(binOp .eql 49 (.slice A 0 c) (.slice none 0 0)).run Tryz.prog W=.ok (.bool A.isNone) W:=fun W=>Lib.run_eql_slice_nil W _ _ _ _ _ _ _ Tryz.underlying49
 clear hi0 hz0
 simp only [List.length_nil]
 cases A with
 | none=>
  have HP:=Lh (show EdV w [] (.returned (.slice none 0 0)) w from ⟨none,0,rfl,nw_none,⟨cp0,Rd.nil none⟩,Below.refl _ _⟩)
  simp only [Option.isNone_none] at heq
  go_enter Tryz.func50,Tryz.ntmps50
  go_wp2
  go_ret
  exact HP.out
 | some a=>
  simp only [Option.isNone_some] at heq
  go_enter Tryz.func50,Tryz.ntmps50
  go_wp2_with (at_builtin;refine wpList_append_rd _ rfl (.tmp 5) (.tmp 6) 49 rfl w.heap.size 126 i0 _ 4 32 Tryz.underlying49 HI.out HZ.out.1 HZ.out.2.1 HZ.out.2.2 rfl (by omega) (.slice (some ⟨w.heap.size,0,none⟩) 0 0) 0 [] rfl (World.ownsRow_made w #[] 0 (nLR _) (Nat.zero_le _) rfl) w.heap.size (some a) 0 c [] rfl (Rd.nil (some a)) (fun u hu=>absurd hu (by simp)) (by unfold maxLen;omega) (by omega) (by simp) ?_;intro v1 w1 hown1 hg1 hat1)
  have HP:=Lh (edclone_end hown1 hg1)
  clear hown1 hg1 hat1
  go_wp2
  go_ret
  exact HP.out
structure Hc15 (w:World) (q:List Hs) (A:Option Addr) (c i:Nat) (Q:List Hs) (W:World):Prop where
 own:W.ownsRow w.heap.size 72 8 (.slice A q.length c) q.length (hcs Q)
 eq:Q.map Hs.S=q.map Hs.S
 rr:RR W W.heap.size (rQ Q)
 of:∀ b,(Value.slice A q.length c).ownBlock=some b->ROff (rQ Q) b
 qc:∀ h∈Q,ShCap h.S h.D
 nw:∀ j h,j<i->Q[j]? = some h->h.D.nw w.heap.size
 bel:Below w.heap.size w W
theorem rq_mem2 {Q:List Hs} {r:Rw15} (hr:r∈rQ Q):∃ h∈Q,r∈shRows h.S h.D:=by simpa [rQ] using hr
theorem rq_of {Q:List Hs} {h:Hs} (hh:h∈Q):∀ r∈shRows h.S h.D,r∈rQ Q:=fun r hr=>by
 simp only [rQ,List.mem_flatMap]
 exact ⟨h,hh,hr⟩
theorem RR.set8 {W' : World} {b i:Nat} {rs:List Rw15} {S:Sh} {E:Sx} (h:RR W' W'.heap.size rs) (ho:ROff rs b):RR ((((((((W'.setCell ⟨b,i*8,none⟩ (.bool S.lv)).setCell ⟨b,i*8+1,none⟩ (.int .i64 S.lo)).setCell ⟨b,i*8+2,none⟩ (.int .i64 S.hi)).setCell ⟨b,i*8+3,none⟩ (.slice E.A S.cs.length E.c)).setCell ⟨b,i*8+4,none⟩ (.int .i64 S.hd)).setCell ⟨b,i*8+5,none⟩ (.int .i64 S.sz)).setCell ⟨b,i*8+6,none⟩ (.slice E.A2 S.l.length E.c2)).setCell ⟨b,i*8+7,none⟩ (.slice E.A3 S.h.length E.c3)) ((((((((W'.setCell ⟨b,i*8,none⟩ (.bool S.lv)).setCell ⟨b,i*8+1,none⟩ (.int .i64 S.lo)).setCell ⟨b,i*8+2,none⟩ (.int .i64 S.hi)).setCell ⟨b,i*8+3,none⟩ (.slice E.A S.cs.length E.c)).setCell ⟨b,i*8+4,none⟩ (.int .i64 S.hd)).setCell ⟨b,i*8+5,none⟩ (.int .i64 S.sz)).setCell ⟨b,i*8+6,none⟩ (.slice E.A2 S.l.length E.c2)).setCell ⟨b,i*8+7,none⟩ (.slice E.A3 S.h.length E.c3)).heap.size rs:=by
 have e:((((((((W'.setCell ⟨b,i*8,none⟩ (.bool S.lv)).setCell ⟨b,i*8+1,none⟩ (.int .i64 S.lo)).setCell ⟨b,i*8+2,none⟩ (.int .i64 S.hi)).setCell ⟨b,i*8+3,none⟩ (.slice E.A S.cs.length E.c)).setCell ⟨b,i*8+4,none⟩ (.int .i64 S.hd)).setCell ⟨b,i*8+5,none⟩ (.int .i64 S.sz)).setCell ⟨b,i*8+6,none⟩ (.slice E.A2 S.l.length E.c2)).setCell ⟨b,i*8+7,none⟩ (.slice E.A3 S.h.length E.c3)).heap.size=W'.heap.size:=by simp
 rw [e]
 exact (((((((h.offp (q:=⟨b,i*8,none⟩) ho _).offp (q:=⟨b,i*8+1,none⟩) ho _).offp (q:=⟨b,i*8+2,none⟩) ho _).offp (q:=⟨b,i*8+3,none⟩) ho _).offp (q:=⟨b,i*8+4,none⟩) ho _).offp (q:=⟨b,i*8+5,none⟩) ho _).offp (q:=⟨b,i*8+6,none⟩) ho _).offp (q:=⟨b,i*8+7,none⟩) ho _
theorem Hc15.len {w W:World} {q Q:List Hs} {A:Option Addr} {c i:Nat} (h:Hc15 w q A c i Q W):Q.length=q.length:=by have:=congrArg List.length h.eq;simpa using this
theorem Hc15.sr {w W:World} {q Q:List Hs} {A:Option Addr} {c i k:Nat} {S:Sh} {D:Sx} (h:Hc15 w q A c i Q W) (hk:Q[k]? = some ⟨S,D⟩):SR W W.heap.size S D:=by
 have hm:=List.mem_of_getElem? hk
 exact SR.of_rr (h.rr.sub (rq_of hm)) (h.qc _ hm)
theorem Hc15.put {w W W' : World} {q Q:List Hs} {b c i:Nat} {S:Sh} {D E:Sx} (h:Hc15 w q (some ⟨b,0,none⟩) c i Q W) (hi:Q[i]? = some ⟨S,D⟩) (hb:Below W.heap.size W W') (hn:E.nw W.heap.size) (hs:SR W' W'.heap.size S E):Hc15 w q (some ⟨b,0,none⟩) c (i+1) (Q.set i ⟨S,E⟩) ((((((((W'.setCell ⟨b,i*8,none⟩ (.bool S.lv)).setCell ⟨b,i*8+1,none⟩ (.int .i64 S.lo)).setCell ⟨b,i*8+2,none⟩ (.int .i64 S.hi)).setCell ⟨b,i*8+3,none⟩ (.slice E.A S.cs.length E.c)).setCell ⟨b,i*8+4,none⟩ (.int .i64 S.hd)).setCell ⟨b,i*8+5,none⟩ (.int .i64 S.sz)).setCell ⟨b,i*8+6,none⟩ (.slice E.A2 S.l.length E.c2)).setCell ⟨b,i*8+7,none⟩ (.slice E.A3 S.h.length E.c3)):=by
 have hlt:=(List.getElem?_eq_some_iff.1 hi).1
 have hbl:=(h.own.lt b rfl)
 have o0:=own_up10 h.own hb
 have o8:=(((((((((o0.stored (i*8) (.bool S.lv)).1.stored (i*8+1) (.int .i64 S.lo)).1.stored (i*8+2) (.int .i64 S.hi)).1.stored (i*8+3) (.slice E.A S.cs.length E.c)).1.stored (i*8+4) (.int .i64 S.hd)).1.stored (i*8+5) (.int .i64 S.sz)).1.stored (i*8+6) (.slice E.A2 S.l.length E.c2)).1).stored (i*8+7) (.slice E.A3 S.h.length E.c3)).1
 rw [hcs_set Q i S E hlt] at o8
 have hm:∀ x∈Q.set i ⟨S,E⟩,x∈Q\/x=⟨S,E⟩:=fun x hx=>List.mem_or_eq_of_mem_set hx
 have hnew:ROff (shRows S E) b:=sh_off (hn.off hbl.2)
 have hoff:ROff (rQ (Q.set i ⟨S,E⟩)) b:=fun r hr=>by
  obtain ⟨x,hx,hrx⟩:=rq_mem2 hr
  rcases hm x hx with h1 | rfl
  ·exact h.of b rfl r (rq_of h1 r hrx)
  ·exact hnew r hrx
 have hrr:RR W' W'.heap.size (rQ (Q.set i ⟨S,E⟩)):=fun r hr=>by
  obtain ⟨x,hx,hrx⟩:=rq_mem2 hr
  rcases hm x hx with h1 | rfl
  ·exact h.rr.up hb r (rq_of h1 r hrx)
  ·exact hs.rr.1 r hrx
 refine ⟨o8,?_,hrr.set8 hoff,fun b' e=>?_,fun x hx=>?_,fun j x hj hx=>?_,?_⟩
 ·rw [List.map_set,h.eq]
  have e:(q.map Hs.S)[i]? = some S:=by rw [<-h.eq,List.getElem?_map,hi];rfl
  exact List.ext_getElem? fun j=>by
   by_cases ej:i=j
   ·subst ej
    rw [List.getElem?_set_self (by rw [<-h.eq];simpa using hlt),e]
   ·rw [List.getElem?_set_ne ej]
 ·obtain rfl:b=b':=by simpa [Value.ownBlock] using e
  exact hoff
 ·rcases hm x hx with h1 | rfl
  ·exact h.qc x h1
  ·exact hs.rr.2
 ·by_cases e:j=i
  ·subst e
   rw [List.getElem?_set_self hlt] at hx
   injection hx with hx
   subst hx
   exact hn.low h.bel.size
  ·rw [List.getElem?_set_ne (fun e'=>e e'.symm)] at hx
   exact h.nw j x (by omega) hx
 ·have hb2:=h.bel.trans (hb.mono h.bel.size)
  exact (((((((hb2.setCell (p:=⟨b,i*8,none⟩) hbl.1 _).setCell (p:=⟨b,i*8+1,none⟩) hbl.1 _).setCell (p:=⟨b,i*8+2,none⟩) hbl.1 _).setCell (p:=⟨b,i*8+3,none⟩) hbl.1 _).setCell (p:=⟨b,i*8+4,none⟩) hbl.1 _).setCell (p:=⟨b,i*8+5,none⟩) hbl.1 _).setCell (p:=⟨b,i*8+6,none⟩) hbl.1 _).setCell (p:=⟨b,i*8+7,none⟩) hbl.1 _
def SmS (q:List Sh):Prop:=q.length<=9/\∀ s∈q,s.cs.length<=1000/\s.l.length<=1000/\s.h.length<=1000
def HV15 (w:World) (l:List Sh) (e:Ending) (w' : World):Prop:=∃ A c q,e=.returned (.slice A l.length c)/\q.map Hs.S=l/\w'.ownsRow w.heap.size 72 8 (.slice A l.length c) l.length (hcs q)/\RR w' w'.heap.size (rQ q)/\RNw (rQ q) w.heap.size/\(∀ b,(Value.slice A l.length c).ownBlock=some b->ROff (rQ q) b)/\(∀ h∈q,ShCap h.S h.D)/\Below w.heap.size w w'
theorem Hc15.out_ {w W:World} {q Q:List Hs} {A:Option Addr} {c:Nat} (h:Hc15 w q A c q.length Q W):HV15 w (q.map Hs.S) (.returned (.slice A q.length c)) W:=by
 have hl:=h.len
 have hn:RNw (rQ Q) w.heap.size:=fun r hr=>by
  obtain ⟨x,hx,hrx⟩:=rq_mem2 hr
  obtain ⟨j,hj,e⟩:=List.mem_iff_getElem.1 hx
  exact sh_nw (h.nw j x (by omega) (by rw [List.getElem?_eq_getElem hj,e])) r hrx
 have e1:(q.map Hs.S).length=q.length:=by simp
 exact ⟨A,c,Q,by rw [e1],h.eq,by rw [e1];exact h.own,h.rr,hn,by rw [e1];exact h.of,h.qc,h.bel⟩
theorem cshards_any (A:Option Addr) (c:Nat) (q:List Hs) (w:World) (hr:RR w w.heap.size (hRows A q)) (hc:∀ h∈q,ShCap h.S h.D) (hs:SmS (q.map Hs.S)):Calls Tryz.prog 47 #[.slice A q.length c] w (HV15 w (q.map Hs.S)):=by
 have hq9:q.length<=9:=by simpa using hs.1
 have HCL:=Lh (hclone_any A c q w (hr ⟨8,A,q.length,hcs q⟩ (by simp [hRows])) (by omega))
 have H0:=Lh (show ∀ A' c' W,W.ownsRow w.heap.size 72 8 (.slice A' q.length c') q.length (hcs q)->Below w.heap.size w W->Hc15 w q A' c' 0 q W from fun A' c' W ho hb=>⟨ho,rfl,(hr.sub (fun r hr'=>List.mem_cons_of_mem _ hr')).up hb,fun b e=>(hr.sub (fun r hr'=>List.mem_cons_of_mem _ hr')).offs (ho.lt b e).1,hc,fun j h hj=>absurd hj (by omega),hb⟩)
 have HS:=Lh hs
 have HQ9:=Lh hq9
 clear hr hc hs hq9
 go_enter Tryz.func47,Tryz.ntmps47
 go_wp2_with fail
 refine HCL.out.mono ?_
 rintro e w1 ⟨v,rfl,hown,hb⟩
 obtain ⟨A',c',rfl⟩:=own_form hown
 have HH:=Lh (H0.out A' c' w1 hown hb)
 clear hown hb H0 HCL
 go_wp2
 by_cases hq0:q.length=0
 ·have HF:=Lh (show HV15 w (q.map Hs.S) (.returned (.slice A' q.length c')) w1 from Hc15.out_ (by rw [show Hc15 w q A' c' q.length q w1=Hc15 w q A' c' 0 q w1 by rw [hq0]];exact HH.out))
  rw [hq0] at HF ⊢
  clear HH HS HQ9 hq0
  go_loopw [8] (fun iv wr=>iv=.int .i64 0/\w1=wr) (fun _ _=>0)
  case atStart=>exact ⟨rfl,rfl⟩
  case round=>
   obtain ⟨rfl,rfl⟩:=hrel
   go_wp2
   go_ret
   exact HF.out
 ·obtain ⟨b,cap,e,hbb,hle,hmx,hrow⟩:=own_rb HH.out.own (show 0<q.length by omega)
  injection e with e1 e2 e3
  subst e1 e3
  clear hbb hle hmx hrow
  go_loopw [8] (fun iv wr=>∃ (i:Nat) (Q:List Hs),iv=.int .i64 i/\i<=q.length/\Hid (Hc15 w q (some ⟨b,0,none⟩) c' i Q wr)) (fun iv _=>q.length - (intOf iv).toNat)
  case atStart=>exact ⟨0,q,rfl,Nat.zero_le _,HH⟩
  case round=>
   clear HH
   obtain ⟨i,Q,rfl,hi,HH⟩:=hrel
   by_cases hlt:i<q.length
   ·have hlt' : (i:Int)<(q.length:Int):=by omega
    have hnl:¬(i:Int)<0:=by omega
    have hw1:IntKind.i64.wrap ((i:Int)+1)=(i:Int)+1:=IntWalk.i64_in _ (by have:=HQ9.out;omega)
    have hl:=HH.out.len
    obtain ⟨S,D,hqi⟩:∃ S D,Q[i]? = some ⟨S,D⟩:=⟨Q[i].S,Q[i].D,List.getElem?_eq_getElem (by omega)⟩
    have hb3:=HS.out.2 S (by rw [<-HH.out.eq];exact List.mem_map.2 ⟨⟨S,D⟩,List.mem_of_getElem? hqi,rfl⟩)
    have HCS:=Lh (fun W (k:Hc15 w q (some ⟨b,0,none⟩) c' i Q W)=>cshard_any S D W (k.sr hqi) hb3.1 hb3.2.1 hb3.2.2)
    have hrb:=Rb.of_own HH.out.own
    have hil:i<Q.length:=by omega
    have hqe:Q[i]=⟨S,D⟩:=by have:=List.getElem?_eq_getElem hil;rw [hqi] at this;exact (Option.some.inj this).symm
    have g:∀ j u,j<8->(⟨S,D⟩:Hs).l[j]? = some u->wr.cell? ⟨b,i*8+j,none⟩=some u:=fun j u hj hu=>hrb.c _ u (by rw [hcs_at Q i j hil hj,hqe];exact hu)
    have q0:=g 0 _ (by omega) rfl
    have q1:=g 1 _ (by omega) rfl
    have q2:=g 2 _ (by omega) rfl
    have q3:=g 3 _ (by omega) rfl
    have q4:=g 4 _ (by omega) rfl
    have q5:=g 5 _ (by omega) rfl
    have q6:=g 6 _ (by omega) rfl
    have q7:=g 7 _ (by omega) rfl
    have ql:=hrb.lt
    simp only [Nat.add_zero] at q0
    have HQI:=Lh hqi
    clear hl hqi hb3 hrb hil hqe g hi hlt
    go_wp2_with fail
    clear q0 q1 q2 q3 q4 q5 q6 q7 ql
    refine (HCS.out _ HH.out).mono ?_
    rintro e w4 ⟨E,rfl,hn,hsr,hb⟩
    have HP:=Lh (HH.out.put HQI.out hb hn hsr)
    have hrb:=(Rb.of_own HH.out.own).up hb
    have hil:=(List.getElem?_eq_some_iff.1 HQI.out).1
    have g:∀ j,j<8->∃ u,w4.cell? ⟨b,i*8+j,none⟩=some u:=fun j hj=>⟨_,hrb.c _ _ (List.getElem?_eq_getElem (by rw [hcs_len];omega))⟩
    obtain ⟨v0,q0⟩:=g 0 (by omega)
    obtain ⟨v1,q1⟩:=g 1 (by omega)
    obtain ⟨v2,q2⟩:=g 2 (by omega)
    obtain ⟨v3,q3⟩:=g 3 (by omega)
    obtain ⟨v4,q4⟩:=g 4 (by omega)
    obtain ⟨v5,q5⟩:=g 5 (by omega)
    obtain ⟨v6,q6⟩:=g 6 (by omega)
    obtain ⟨v7,q7⟩:=g 7 (by omega)
    have ql:=hrb.lt
    simp only [Nat.add_zero] at q0
    have g0:=hrb.f (i*8)
    have g1:=hrb.f (i*8+1)
    have g2:=hrb.f (i*8+2)
    have g3:=hrb.f (i*8+3)
    have g4:=hrb.f (i*8+4)
    have g5:=hrb.f (i*8+5)
    have g6:=hrb.f (i*8+6)
    have g7:=hrb.f (i*8+7)
    have HIL:=Lh (show i<q.length from by have:=HH.out.len;omega)
    clear hn hsr hb HH HCS hrb hil g HQI
    go_wp2
    go_roundw
    case rel=>exact ⟨i+1,_,by first | rfl | go_num,HIL.out,HP⟩
    case measure=>have:=HIL.out;simp [intOf];omega
   ·have hle:i=q.length:=by omega
    subst hle
    have hlt' : ¬(q.length:Int)<(q.length:Int):=by omega
    have HF:=Lh HH.out.out_
    clear hi hlt HH
    go_wp2
    go_ret
    exact HF.out
def Pr15 (W:World) (p r:Nat) (x:Rw15):Prop:=Rd W W.heap.size x.z x.A x.n x.xs/\OffB p x.n x.A/\OffB r x.n x.A
structure Cg (w:World) (p r:Nat) (cs zs:List Value) (rs:List Rw15) (W:World):Prop where
 rb:Rb W p cs
 rr:Rb W r zs
 rows:∀ x∈rs,Pr15 W p r x
 ne:w.heap.size<=p/\p<r
 bel:Below w.heap.size w W
section
variable {w W W' : World} {p r:Nat} {cs cs' zs:List Value} {rs rs' : List Rw15}
theorem Cg.up (h:Cg w p r cs zs rs W) (hb:Below W.heap.size W W'):Cg w p r cs zs rs W':=
 ⟨h.rb.up hb,h.rr.up hb,fun x hx=>⟨((h.rows x hx).1.below hb).more hb.size,(h.rows x hx).2⟩,h.ne,h.bel.trans (hb.mono h.bel.size)⟩
theorem Rd.stN15 {B z n o:Nat} {A:Option Addr} {xs vs:List Value} (h:Rd W B z A n xs) (ho:OffB p n A):Rd (stN15 W p o vs) B z A n xs:=by
 induction vs generalizing W o with
 | nil=>exact h
 | cons v vs ih=>exact ih (h.offp (p:=⟨p,o,none⟩) ho v)
theorem Cg.sto (h:Cg w p r cs zs rs W) (o:Nat) (vs:List Value) (hl:o+vs.length<=cs.length) (he:cs.take o++vs++cs.drop (o+vs.length)=cs') (hr:∀ x∈rs',Pr15 W p r x):Cg w p r cs' zs rs' (stN15 W p o vs):=by
 have h1:=rb_stN_at (vs:=vs) h.rb o hl
 rw [he] at h1
 refine ⟨h1,h.rr.stNo (by have:=h.ne;omega) o,fun x hx=>⟨?_,(hr x hx).2⟩,h.ne,stN15_below h.bel h.ne.1 o⟩
 rw [stN15_size]
 exact (hr x hx).1.stN15 (hr x hx).2.1
theorem Cg.start {rs:List Rw15} (T T2:TypeId) (hr:∀ x∈rs,Rd w w.heap.size x.z x.A x.n x.xs):Cg w w.heap.size (w.heap.size+1) cs zs rs ((w.alloc (.cells cs.toArray T)).alloc (.cells zs.toArray T2)):=by
 have h1:=Rb.start (w.alloc (.cells cs.toArray T)) zs T2
 rw [show (w.alloc (.cells cs.toArray T)).heap.size=w.heap.size+1 by simp] at h1
 have hb:=((Below.refl w.heap.size w).alloc (nLR _) (.cells cs.toArray T)).alloc (by simp) (.cells zs.toArray T2)
 exact ⟨(Rb.start w cs T).up ((Below.refl _ _).alloc (nLR _) _),h1,fun x hx=>⟨((hr x hx).below hb).more hb.size,rd_off (hr x hx) (nLR _),rd_off (hr x hx) (by omega)⟩,⟨nLR _,by omega⟩,hb⟩
theorem pr_new {V:World} {z n:Nat} {A:Option Addr} {xs:List Value} (h:Rd W W.heap.size z A n xs) (hn:Nw V.heap.size A) (hp:p<V.heap.size) (hr:r<V.heap.size):Pr15 W p r ⟨z,A,n,xs⟩:=⟨h,offb_nw hn hp,offb_nw hn hr⟩
end
section
variable {W:World} {B:Nat} {o:Ou} {X:Oux}
theorem ou_mem {r:Rw15} (hr:r∈o.rows X):r∈hRows X.A X.q\/r=⟨7,X.Ad,o.dl.length,lcs o.dl⟩\/r=⟨1,X.Ao,o.od.length,ics o.od⟩\/r=⟨7,X.Ac,o.ca.length,lcs o.ca⟩\/r=⟨4,X.Ae,o.ed.length,edcs o.ed⟩:=by
 simpa only [Ou.rows,List.mem_cons,List.mem_append,List.not_mem_nil,or_false] using hr
theorem ou_rows_of {P:Rw15->Prop} (h1:∀ r∈hRows X.A X.q,P r) (h2:P ⟨7,X.Ad,o.dl.length,lcs o.dl⟩) (h3:P ⟨1,X.Ao,o.od.length,ics o.od⟩) (h4:P ⟨7,X.Ac,o.ca.length,lcs o.ca⟩) (h5:P ⟨4,X.Ae,o.ed.length,edcs o.ed⟩):∀ r∈o.rows X,P r:=fun r hr=>by
 rcases ou_mem hr with h | rfl | rfl | rfl | rfl
 ·exact h1 r h
 ·exact h2
 ·exact h3
 ·exact h4
 ·exact h5
end
structure SmO (o:Ou):Prop where
 sh:SmS o.sh
 dl:o.dl.length<=1000
 od:o.od.length<=1000
 ca:o.ca.length<=1000
 ed:o.ed=[]
def OV15 (w:World) (o:Ou) (e:Ending) (w' : World):Prop:=∃ X,e=.returned (ouv o X)/\RNw (o.rows X) w.heap.size/\OuR w' w'.heap.size o X/\Below w.heap.size w w'
theorem pr_hrows {W V:World} {p r c:Nat} {A:Option Addr} {q:List Hs} {l:List Sh} (hq:q.map Hs.S=l) (hown:W.ownsRow V.heap.size 72 8 (.slice A l.length c) l.length (hcs q)) (hrr:RR W W.heap.size (rQ q)) (hnn:RNw (rQ q) V.heap.size) (hp:p<V.heap.size) (hr:r<V.heap.size):∀ x∈hRows A q,Pr15 W p r x:=by
 have e:q.length=l.length:=by rw [<-hq];simp
 refine hrows_of ?_ (fun x hx=>⟨hrr x hx,offb_nw (hnn x hx) hp,offb_nw (hnn x hx) hr⟩)
 rw [e]
 exact pr_new (Rd.of_own hown) (nwv_of (nwv_own hown (nLR _))) hp hr
theorem own_cap {W:World} {B n c size:Nat} {T:TypeId} {A:Option Addr} {xs:List Value} (h:W.ownsRow B T size (.slice A n c) n xs):Cp n c:=by
 rcases h.2 with ⟨hv,h0⟩ | ⟨g,cap,cur,hv,_,_,hl,hm,_⟩
 ·injection hv with _ _ e3
  subst e3 h0
  exact cp0
 ·injection hv with _ _ e3
  subst e3
  exact ⟨hl,hm⟩
theorem coutcome_any (o:Ou) (X:Oux) (w:World) (h:OuR w w.heap.size o X) (hs:SmO o):Calls Tryz.prog 27 #[ouv o X] w (OV15 w o):=by
 obtain ⟨p,hp⟩:∃ p,p=w.heap.size:=⟨_,rfl⟩
 obtain ⟨r,hr⟩:∃ r,r=w.heap.size+1:=⟨_,rfl⟩
 have H0:=Lh (show Cg w p r [.slice X.A o.sh.length X.c,.int .i64 o.dc,.slice X.Ad o.dl.length X.cd,.slice X.Ao o.od.length X.co,.slice X.Ac o.ca.length X.cc,.slice X.Ae o.ed.length X.ce] [.slice none 0 0,.int .i64 0,.slice none 0 0,.slice none 0 0,.slice none 0 0,.slice none 0 0] (o.rows X) _ from by rw [hr,hp];exact Cg.start 51 51 h.r)
 have HSR:=Lh (h.shards)
 have HC1:=Lh (fun W (k:Below w.heap.size w W)=>cshards_any X.A X.c X.q W ((h.shards.below k).more k.size) h.ok.qc (by rw [h.ok.q];exact hs.sh))
 rw [h.ok.q,show X.q.length=o.sh.length by rw [<-h.ok.q];simp] at HC1
 have HC2:=Lh (fun W (k:Below w.heap.size w W)=>cdead_any o.dc X.Ad X.cd o.dl W ((h.dead.below k).more k.size) hs.dl)
 have HC3:=Lh (fun W (k:Below w.heap.size w W)=>(niclone_any X.Ao o.od.length X.co o.od W ((h.order.below k).more k.size) hs.od).mono fun _ _ h=>niclp_flv h)
 have HC4:=Lh (fun W (k:Below w.heap.size w W)=>(mgclone_any X.Ac o.ca.length X.cc o.ca W ((h.carry.below k).more k.size) hs.ca).mono fun _ _ h=>mgclp_lsv h)
 have HC5:=Lh (fun W=>edclone_any X.Ae X.ce o.ed W hs.ed)
 replace HC5:=Lh (fun W (_:Below w.heap.size w W)=>HC5.out W)
 have HPP:=Lh (And.intro hp hr)
 clear hp hr h hs HSR
 go_enter Tryz.func27,Tryz.ntmps27
 go_upto_region 1 with (fail)
 rw [<-HPP.out.2,<-HPP.out.1]
 generalize (w.alloc (.cells #[.slice X.A o.sh.length X.c,.int .i64 o.dc,.slice X.Ad o.dl.length X.cd,.slice X.Ao o.od.length X.co,.slice X.Ac o.ca.length X.cc,.slice X.Ae o.ed.length X.ce] 51)).alloc (.cells #[.slice none 0 0,.int .i64 0,.slice none 0 0,.slice none 0 0,.slice none 0 0,.slice none 0 0] 51)=w0 at*
 have y0:=H0.out.rb.c 0 _ rfl
 have yl:=H0.out.rb.lt
 go_wp2_with fail
 clear y0 yl
 refine (HC1.out _ H0.out.bel).mono ?_
 rintro e v1 ⟨A1,c1,q1,rfl,hq,hown,hrr,hnn,hof,hqc,hb⟩
 have HA:=H0.out
 have HB:=HA.up hb
 have H1:=Lh (show Cg w p r [.slice A1 o.sh.length c1,.int .i64 o.dc,.slice X.Ad o.dl.length X.cd,.slice X.Ao o.od.length X.co,.slice X.Ac o.ca.length X.cc,.slice X.Ae o.ed.length X.ce] [.slice none 0 0,.int .i64 0,.slice none 0 0,.slice none 0 0,.slice none 0 0,.slice none 0 0] (o.rows ({ X with A:=A1,c:=c1,q:=q1 })) (v1.setCell ⟨p,0,none⟩ (.slice A1 o.sh.length c1)) from HB.sto 0 [.slice A1 o.sh.length c1] (by simp) rfl (ou_rows_of (pr_hrows hq hown hrr hnn HA.rb.lt HA.rr.lt) (HB.rows ⟨7,X.Ad,o.dl.length,lcs o.dl⟩ (by simp [Ou.rows])) (HB.rows ⟨1,X.Ao,o.od.length,ics o.od⟩ (by simp [Ou.rows])) (HB.rows ⟨7,X.Ac,o.ca.length,lcs o.ca⟩ (by simp [Ou.rows])) (HB.rows ⟨4,X.Ae,o.ed.length,edcs o.ed⟩ (by simp [Ou.rows]))))
 have N1:=Lh (show RNw (hRows A1 q1) w.heap.size/\q1.map Hs.S=o.sh/\(∀ h∈q1,ShCap h.S h.D)/\Cp o.sh.length c1 from ⟨hrows_of (nw_low (nwv_of (nwv_own hown (nLR _))) HA.bel.size) (hnn.low HA.bel.size),hq,hqc,own_cap hown⟩)
 clear HA
 have HU:=Lh HB
 clear HB hq hown hrr hnn hof hqc hb H0 HC1
 have y0:=HU.out.rb.c 0 _ rfl
 have f0:=HU.out.rb.f 0
 have yl:=HU.out.rb.lt
 go_upto_region 2 with (fail)
 clear y0 f0 yl HU
 generalize v1.setCell ⟨p,0,none⟩ (.slice A1 o.sh.length c1)=w1 at*
 have y1:=H1.out.rb.c 1 _ rfl
 have y2:=H1.out.rb.c 2 _ rfl
 have yl:=H1.out.rb.lt
 go_wp2_with fail
 clear y1 y2 yl
 refine (HC2.out _ H1.out.bel).mono ?_
 rintro e v2 ⟨A2,c2,rfl,hn,hls,hb⟩
 have HA:=H1.out
 have HB:=HA.up hb
 have H2:=Lh (show Cg w p r [.slice A1 o.sh.length c1,.int .i64 o.dc,.slice A2 o.dl.length c2,.slice X.Ao o.od.length X.co,.slice X.Ac o.ca.length X.cc,.slice X.Ae o.ed.length X.ce] [.slice none 0 0,.int .i64 0,.slice none 0 0,.slice none 0 0,.slice none 0 0,.slice none 0 0] (o.rows ({ X with A:=A1,c:=c1,q:=q1,Ad:=A2,cd:=c2 })) ((v2.setCell ⟨p,1,none⟩ (.int .i64 o.dc)).setCell ⟨p,2,none⟩ (.slice A2 o.dl.length c2)) from HB.sto 1 [.int .i64 o.dc,.slice A2 o.dl.length c2] (by simp) rfl (ou_rows_of (fun x hx=>HB.rows x (by simp only [Ou.rows,List.mem_append];exact .inl hx)) (pr_new hls.rd hn HA.rb.lt HA.rr.lt) (HB.rows ⟨1,({ X with A:=A1,c:=c1,q:=q1 }).Ao,o.od.length,ics o.od⟩ (by simp [Ou.rows])) (HB.rows ⟨7,({ X with A:=A1,c:=c1,q:=q1 }).Ac,o.ca.length,lcs o.ca⟩ (by simp [Ou.rows])) (HB.rows ⟨4,({ X with A:=A1,c:=c1,q:=q1 }).Ae,o.ed.length,edcs o.ed⟩ (by simp [Ou.rows]))))
 have N2:=Lh (show Nw w.heap.size A2/\Cp o.dl.length c2 from ⟨nw_low hn HA.bel.size,hls.len.2⟩)
 clear HA
 have HU:=Lh HB
 clear HB hn hls hb H1 HC2
 have y1:=HU.out.rb.c 1 _ rfl
 have f1:=HU.out.rb.f 1
 have y2:=HU.out.rb.c 2 _ rfl
 have f2:=HU.out.rb.f 2
 have yl:=HU.out.rb.lt
 go_upto_region 3 with (fail)
 clear y1 f1 y2 f2 yl HU
 generalize (v2.setCell ⟨p,1,none⟩ (.int .i64 o.dc)).setCell ⟨p,2,none⟩ (.slice A2 o.dl.length c2)=w2 at*
 have y3:=H2.out.rb.c 3 _ rfl
 have yl:=H2.out.rb.lt
 go_wp2_with fail
 clear y3 yl
 refine (HC3.out _ H2.out.bel).mono ?_
 rintro e v3 ⟨A3,c3,rfl,hn,hls,hb⟩
 have HA:=H2.out
 have HB:=HA.up hb
 have H3:=Lh (show Cg w p r [.slice A1 o.sh.length c1,.int .i64 o.dc,.slice A2 o.dl.length c2,.slice A3 o.od.length c3,.slice X.Ac o.ca.length X.cc,.slice X.Ae o.ed.length X.ce] [.slice none 0 0,.int .i64 0,.slice none 0 0,.slice none 0 0,.slice none 0 0,.slice none 0 0] (o.rows ({ X with A:=A1,c:=c1,q:=q1,Ad:=A2,cd:=c2,Ao:=A3,co:=c3 })) (v3.setCell ⟨p,3,none⟩ (.slice A3 o.od.length c3)) from HB.sto 3 [.slice A3 o.od.length c3] (by simp) rfl (ou_rows_of (fun x hx=>HB.rows x (by simp only [Ou.rows,List.mem_append];exact .inl hx)) (HB.rows ⟨7,({ X with A:=A1,c:=c1,q:=q1,Ad:=A2,cd:=c2 }).Ad,o.dl.length,lcs o.dl⟩ (by simp [Ou.rows])) (pr_new hls.rd hn HA.rb.lt HA.rr.lt) (HB.rows ⟨7,({ X with A:=A1,c:=c1,q:=q1,Ad:=A2,cd:=c2 }).Ac,o.ca.length,lcs o.ca⟩ (by simp [Ou.rows])) (HB.rows ⟨4,({ X with A:=A1,c:=c1,q:=q1,Ad:=A2,cd:=c2 }).Ae,o.ed.length,edcs o.ed⟩ (by simp [Ou.rows]))))
 have N3:=Lh (show Nw w.heap.size A3/\Cp o.od.length c3 from ⟨nw_low hn HA.bel.size,hls.len.2⟩)
 clear HA
 have HU:=Lh HB
 clear HB hn hls hb H2 HC3
 have y3:=HU.out.rb.c 3 _ rfl
 have f3:=HU.out.rb.f 3
 have yl:=HU.out.rb.lt
 go_upto_region 4 with (fail)
 clear y3 f3 yl HU
 generalize v3.setCell ⟨p,3,none⟩ (.slice A3 o.od.length c3)=w3 at*
 have y4:=H3.out.rb.c 4 _ rfl
 have yl:=H3.out.rb.lt
 go_wp2_with fail
 clear y4 yl
 refine (HC4.out _ H3.out.bel).mono ?_
 rintro e v4 ⟨A4,c4,rfl,hn,hls,hb⟩
 have HA:=H3.out
 have HB:=HA.up hb
 have H4:=Lh (show Cg w p r [.slice A1 o.sh.length c1,.int .i64 o.dc,.slice A2 o.dl.length c2,.slice A3 o.od.length c3,.slice A4 o.ca.length c4,.slice X.Ae o.ed.length X.ce] [.slice none 0 0,.int .i64 0,.slice none 0 0,.slice none 0 0,.slice none 0 0,.slice none 0 0] (o.rows ({ X with A:=A1,c:=c1,q:=q1,Ad:=A2,cd:=c2,Ao:=A3,co:=c3,Ac:=A4,cc:=c4 })) (v4.setCell ⟨p,4,none⟩ (.slice A4 o.ca.length c4)) from HB.sto 4 [.slice A4 o.ca.length c4] (by simp) rfl (ou_rows_of (fun x hx=>HB.rows x (by simp only [Ou.rows,List.mem_append];exact .inl hx)) (HB.rows ⟨7,({ X with A:=A1,c:=c1,q:=q1,Ad:=A2,cd:=c2,Ao:=A3,co:=c3 }).Ad,o.dl.length,lcs o.dl⟩ (by simp [Ou.rows])) (HB.rows ⟨1,({ X with A:=A1,c:=c1,q:=q1,Ad:=A2,cd:=c2,Ao:=A3,co:=c3 }).Ao,o.od.length,ics o.od⟩ (by simp [Ou.rows])) (pr_new hls.rd hn HA.rb.lt HA.rr.lt) (HB.rows ⟨4,({ X with A:=A1,c:=c1,q:=q1,Ad:=A2,cd:=c2,Ao:=A3,co:=c3 }).Ae,o.ed.length,edcs o.ed⟩ (by simp [Ou.rows]))))
 have N4:=Lh (show Nw w.heap.size A4/\Cp o.ca.length c4 from ⟨nw_low hn HA.bel.size,hls.len.2⟩)
 clear HA
 have HU:=Lh HB
 clear HB hn hls hb H3 HC4
 have y4:=HU.out.rb.c 4 _ rfl
 have f4:=HU.out.rb.f 4
 have yl:=HU.out.rb.lt
 go_upto_region 5 with (fail)
 clear y4 f4 yl HU
 generalize v4.setCell ⟨p,4,none⟩ (.slice A4 o.ca.length c4)=w4 at*
 have y5:=H4.out.rb.c 5 _ rfl
 have yl:=H4.out.rb.lt
 go_wp2_with fail
 clear y5 yl
 refine (HC5.out _ H4.out.bel).mono ?_
 rintro e v5 ⟨A5,c5,rfl,hn,hls,hb⟩
 have HA:=H4.out
 have HB:=HA.up hb
 have H5:=Lh (show Cg w p r [.slice A1 o.sh.length c1,.int .i64 o.dc,.slice A2 o.dl.length c2,.slice A3 o.od.length c3,.slice A4 o.ca.length c4,.slice A5 o.ed.length c5] [.slice none 0 0,.int .i64 0,.slice none 0 0,.slice none 0 0,.slice none 0 0,.slice none 0 0] (o.rows ({ X with A:=A1,c:=c1,q:=q1,Ad:=A2,cd:=c2,Ao:=A3,co:=c3,Ac:=A4,cc:=c4,Ae:=A5,ce:=c5 })) (v5.setCell ⟨p,5,none⟩ (.slice A5 o.ed.length c5)) from HB.sto 5 [.slice A5 o.ed.length c5] (by simp) rfl (ou_rows_of (fun x hx=>HB.rows x (by simp only [Ou.rows,List.mem_append];exact .inl hx)) (HB.rows ⟨7,({ X with A:=A1,c:=c1,q:=q1,Ad:=A2,cd:=c2,Ao:=A3,co:=c3,Ac:=A4,cc:=c4 }).Ad,o.dl.length,lcs o.dl⟩ (by simp [Ou.rows])) (HB.rows ⟨1,({ X with A:=A1,c:=c1,q:=q1,Ad:=A2,cd:=c2,Ao:=A3,co:=c3,Ac:=A4,cc:=c4 }).Ao,o.od.length,ics o.od⟩ (by simp [Ou.rows])) (HB.rows ⟨7,({ X with A:=A1,c:=c1,q:=q1,Ad:=A2,cd:=c2,Ao:=A3,co:=c3,Ac:=A4,cc:=c4 }).Ac,o.ca.length,lcs o.ca⟩ (by simp [Ou.rows])) (pr_new hls.2 hn HA.rb.lt HA.rr.lt)))
 have N5:=Lh (show Nw w.heap.size A5/\Cp o.ed.length c5 from ⟨nw_low hn HA.bel.size,hls.1⟩)
 clear HA
 have HU:=Lh HB
 clear HB hn hls hb H4 HC5
 have y5:=HU.out.rb.c 5 _ rfl
 have f5:=HU.out.rb.f 5
 have yl:=HU.out.rb.lt
 go_upto_region 6 with (fail)
 clear y5 f5 yl HU
 generalize v5.setCell ⟨p,5,none⟩ (.slice A5 o.ed.length c5)=w5 at*
 have y0:=H5.out.rb.c 0 _ rfl
 have y1:=H5.out.rb.c 1 _ rfl
 have y2:=H5.out.rb.c 2 _ rfl
 have y3:=H5.out.rb.c 3 _ rfl
 have y4:=H5.out.rb.c 4 _ rfl
 have y5:=H5.out.rb.c 5 _ rfl
 have yl:=H5.out.rb.lt
 have r0:=H5.out.rr.c 0 _ rfl
 have g0:=H5.out.rr.f 0
 have r1:=H5.out.rr.c 1 _ rfl
 have g1:=H5.out.rr.f 1
 have r2:=H5.out.rr.c 2 _ rfl
 have g2:=H5.out.rr.f 2
 have r3:=H5.out.rr.c 3 _ rfl
 have g3:=H5.out.rr.f 3
 have r4:=H5.out.rr.c 4 _ rfl
 have g4:=H5.out.rr.f 4
 have r5:=H5.out.rr.c 5 _ rfl
 have g5:=H5.out.rr.f 5
 have rl:=H5.out.rr.lt
 have hpr:¬p=r:=Nat.ne_of_lt H5.out.ne.2
 have hrp:¬r=p:=fun e=>hpr e.symm
 have HF:=Lh (show OV15 w o (.returned (.agg #[.slice A1 o.sh.length c1,.int .i64 o.dc,.slice A2 o.dl.length c2,.slice A3 o.od.length c3,.slice A4 o.ca.length c4,.slice A5 o.ed.length c5])) ((((((w5.setCell ⟨r,0,none⟩ (.slice A1 o.sh.length c1)).setCell ⟨r,1,none⟩ (.int .i64 o.dc)).setCell ⟨r,2,none⟩ (.slice A2 o.dl.length c2)).setCell ⟨r,3,none⟩ (.slice A3 o.od.length c3)).setCell ⟨r,4,none⟩ (.slice A4 o.ca.length c4)).setCell ⟨r,5,none⟩ (.slice A5 o.ed.length c5)) from by
  refine ⟨{ X with A:=A1,c:=c1,q:=q1,Ad:=A2,cd:=c2,Ao:=A3,co:=c3,Ac:=A4,cc:=c4,Ae:=A5,ce:=c5 },rfl,ou_rows_of N1.out.1 N2.out.1 N3.out.1 N4.out.1 N5.out.1,⟨?_,⟨N1.out.2.1,N1.out.2.2.1,N1.out.2.2.2,N2.out.2,N3.out.2,N4.out.2,N5.out.2⟩⟩,?_⟩
  ·have e:((((((w5.setCell ⟨r,0,none⟩ (.slice A1 o.sh.length c1)).setCell ⟨r,1,none⟩ (.int .i64 o.dc)).setCell ⟨r,2,none⟩ (.slice A2 o.dl.length c2)).setCell ⟨r,3,none⟩ (.slice A3 o.od.length c3)).setCell ⟨r,4,none⟩ (.slice A4 o.ca.length c4)).setCell ⟨r,5,none⟩ (.slice A5 o.ed.length c5)).heap.size=w5.heap.size:=by simp
   rw [e]
   exact fun x hx=>(show Rd (stN15 w5 r 0 [.slice A1 o.sh.length c1,.int .i64 o.dc,.slice A2 o.dl.length c2,.slice A3 o.od.length c3,.slice A4 o.ca.length c4,.slice A5 o.ed.length c5]) w5.heap.size x.z x.A x.n x.xs from (H5.out.rows x hx).1.stN15 (H5.out.rows x hx).2.2)
  ·exact stN15_below (vs:=[.slice A1 o.sh.length c1,.int .i64 o.dc,.slice A2 o.dl.length c2,.slice A3 o.od.length c3,.slice A4 o.ca.length c4,.slice A5 o.ed.length c5]) H5.out.bel (by have:=H5.out.ne;omega) 0)
 clear H5 N1 N2 N3 N4 N5
 go_wp2
 exact bodyPost_ret (v:=.agg #[.slice A1 o.sh.length c1,.int .i64 o.dc,.slice A2 o.dl.length c2,.slice A3 o.od.length c3,.slice A4 o.ca.length c4,.slice A5 o.ed.length c5]) (by simp only [results,Tryz.results27];go_simp <;> rfl) rfl HF.out
end Go.Proofs.YtkecnihgjepfeaaGreat
