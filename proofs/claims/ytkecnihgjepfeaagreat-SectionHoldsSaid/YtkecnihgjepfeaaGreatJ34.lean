/- What is proved here: parts of the proof: Jn Qsp Qld Qcm Jk Jkp. -/
import Derived.Test.YtkecnihgjepfeaaGreatJ33
namespace Go.Proofs.YtkecnihgjepfeaaGreat
open Go.RowKit
set_option linter.unusedVariables false
set_option linter.unusedSimpArgs false
set_option maxHeartbeats 8000000
set_option maxRecDepth 20000
def ascB:Int->List Int->Bool
 | _,[]=>true
 | b,x::t=>decide (b<x/\x<=6)&&ascB x t
def nwE13 (cs:List Int):Int:=if cs.length<1\/3<cs.length then 2 else if ascB (-1) cs=true then 0 else 1
def nwL13 (cs:List Int):Lk:=if nwE13 cs=0 then ⟨cs,0,0,0,0⟩ else zK
theorem asc_at {cs:List Int} {k:Nat} {v:Int} (hk:k<cs.length):ascB v (cs.drop k)=(decide (v<ig cs k/\ig cs k<=6)&&ascB (ig cs k) (cs.drop (k+1))):=by
 rw [List.drop_eq_getElem_cons hk]
 have e:ig cs k=cs[k]:=by simp [ig,List.getD,hk]
 rw [e]
 rfl
theorem asc_end {cs:List Int} {v:Int}:ascB v (cs.drop cs.length)=true:=by rw [List.drop_length];rfl
theorem LB.zero (w:World) (t:TypeId):LB (w.alloc (.cells #[.slice none 0 0,.int .i64 0,.int .i64 0,.int .i64 0,.int .i64 0] t)) w.heap.size zK none 0:=LB.start w zK none 0 t
structure Jn (w:World) (r:Nat) (cs:List Int) (A:Option Addr) (c:Nat) (W:World):Prop where
 rb:LB W r zK none 0
 fl:Fl W w.heap.size (.slice A cs.length c) cs
 old:w.heap.size<=r
 bel:Below w.heap.size w W
section
variable {w W W' : World} {r:Nat} {cs:List Int} {A:Option Addr} {c:Nat}
theorem Jn.below (h:Jn w r cs A c W) (hb:Below W.heap.size W W'):Jn w r cs A c W':=⟨h.rb.up hb,h.fl.below (hb.mono h.bel.size),h.old,h.bel.trans (hb.mono h.bel.size)⟩
theorem Jn.start (h:Fl w w.heap.size (.slice A cs.length c) cs):Jn w w.heap.size cs A c (w.alloc (.cells #[.slice none 0 0,.int .i64 0,.int .i64 0,.int .i64 0,.int .i64 0] 45)):=⟨LB.zero w _,h.alloc (nLR _) _,nLR _,(Below.refl _ _).alloc (nLR _) _⟩
end
theorem jnew_any (A:Option Addr) (c:Nat) (cs:List Int) (w:World) (hf:Fl w w.heap.size (.slice A cs.length c) cs):Calls Tryz.prog 25 #[.slice A cs.length c] w (LE w (nwL13 cs) (nwE13 cs)):=by
 obtain ⟨r,hr⟩:∃ r,r=w.heap.size:=⟨_,rfl⟩
 have H0:=Lh (show Jn w r cs A c _ from by rw [hr];exact Jn.start hf)
 have HPP:=Lh hr
 obtain ⟨E,hE⟩:∃ E,E=nwE13 cs:=⟨_,rfl⟩
 obtain ⟨M,hM⟩:∃ M,M=nwL13 cs:=⟨_,rfl⟩
 rw [<-hE,<-hM]
 have hMZ:E≠0->M=zK:=fun h=>by rw [hM];exact if_neg (by rw [<-hE];exact h)
 have HMZ:=Lh hMZ
 by_cases hl:cs.length<1\/3<cs.length
 ·have HE:=Lh (show E=2 from by rw [hE];exact if_pos hl)
  have HF:=Lh (fun W (k:Jn w r cs A c W)=>show LE w M E (.returned (.tuple #[lv zK none 0,.int .i64 2])) (set5 W r zK none 0) from by rw [HMZ.out (by rw [HE.out];decide),HE.out];exact le_out k.old k.bel (nw_none (lo:=r+1)) Fl.nil 2)
  clear hr hE hM hMZ hf
  rcases hl with h1 | h3
  ·have h1' : (cs.length:Int)<1:=by omega
   clear h1
   go_enter Tryz.func25,Tryz.ntmps25
   go_upto_region 1 with (fail)
   rw [<-HPP.out]
   generalize (w.alloc (.cells #[.slice none 0 0,.int .i64 0,.int .i64 0,.int .i64 0,.int .i64 0] 45))=w1 at*
   have HF:=Lh (HF.out _ H0.out)
   obtain ⟨r0,r1,r2,r3,r4⟩:=H0.out.rb.k
   have rl:=H0.out.rb.lt
   obtain ⟨g0,g1,g2,g3,g4⟩:=H0.out.rb.free
   clear H0
   go_wp2
   exact bodyPost_ret (v:=.tuple #[.agg #[.slice none 0 0,.int .i64 0,.int .i64 0,.int .i64 0,.int .i64 0],.int .i64 2]) (by simp only [results,Tryz.results25];go_simp <;> rfl) rfl HF.out
  ·have h1' : ¬(cs.length:Int)<1:=by omega
   have h3' : (3:Int)<(cs.length:Int):=by omega
   clear h3
   go_enter Tryz.func25,Tryz.ntmps25
   go_upto_region 1 with (fail)
   rw [<-HPP.out]
   generalize (w.alloc (.cells #[.slice none 0 0,.int .i64 0,.int .i64 0,.int .i64 0,.int .i64 0] 45))=w1 at*
   have HF:=Lh (HF.out _ H0.out)
   obtain ⟨r0,r1,r2,r3,r4⟩:=H0.out.rb.k
   have rl:=H0.out.rb.lt
   obtain ⟨g0,g1,g2,g3,g4⟩:=H0.out.rb.free
   clear H0
   go_wp2
   exact bodyPost_ret (v:=.tuple #[.agg #[.slice none 0 0,.int .i64 0,.int .i64 0,.int .i64 0,.int .i64 0],.int .i64 2]) (by simp only [results,Tryz.results25];go_simp <;> rfl) rfl HF.out
 ·have h1' : ¬(cs.length:Int)<1:=by omega
  have h3' : ¬(3:Int)<(cs.length:Int):=by omega
  have HLN:=Lh (show 1<=cs.length/\cs.length<=3 from by omega)
  have HE:=Lh (show E=if ascB (-1) cs=true then 0 else 1 from by rw [hE];exact if_neg hl)
  have HM:=Lh (show E=0->M=⟨cs,0,0,0,0⟩ from fun h=>by rw [hM];exact if_pos (by rw [<-hE];exact h))
  have HCL:=Lh (fun W (k:Jn w r cs A c W)=>(niclone_any A cs.length c cs W (k.fl.more k.bel.size) (by omega)).mono fun _ _ h=>niclp_flv h)
  have HF0:=Lh (fun (hx:ascB (-1) cs=false) W (k:Jn w r cs A c W)=>show LE w M E (.returned (.tuple #[lv zK none 0,.int .i64 1])) (set5 W r zK none 0) from by
   have e1:E=1:=by rw [HE.out,hx];rfl
   rw [HMZ.out (by rw [e1];decide),e1]
   exact le_out k.old k.bel (nw_none (lo:=r+1)) Fl.nil 1)
  clear hr hE hM hMZ hl hf
  go_enter Tryz.func25,Tryz.ntmps25
  go_upto_region 1 with (fail)
  rw [<-HPP.out]
  generalize (w.alloc (.cells #[.slice none 0 0,.int .i64 0,.int .i64 0,.int .i64 0,.int .i64 0] 45))=w1 at*
  go_wp2
  clear h1' h3'
  go_loopw [4,18] (fun b i wr=>∃ (k:Nat) (v:Int),k<=cs.length/\i=.int .i64 k/\b=.int .i64 v/\Hid (ascB (-1) cs=ascB v (cs.drop k)/\Jn w r cs A c wr)) (fun _ i _=>cs.length - (intOf i).toNat)
  case atStart=>exact ⟨0,-1,by omega,rfl,rfl,Lh ⟨rfl,H0.out⟩⟩
  case round=>
   clear H0
   obtain ⟨k,v,hk,rfl,rfl,H⟩:=hrel
   by_cases hlt:k<cs.length
   ·have hlt' : (k:Int)<(cs.length:Int):=by omega
    have hk0:(0:Int)<=(k:Int):=by omega
    have hw2:IntKind.i64.wrap ((k:Int)+1)=(k:Int)+1:=IntWalk.i64_in _ (by have:=HLN.out;omega)
    have HA:=Lh (H.out.1.trans (asc_at hlt))
    obtain ⟨b,o,hA,hbl,c0⟩:=H.out.2.fl.atg hlt
    have hAe:A=some ⟨b,o,none⟩:=hA
    subst hAe
    generalize ig cs k=x at*
    by_cases h2:x<=v
    ·have HF:=Lh (HF0.out (by rw [HA.out];simp;omega) _ H.out.2)
     obtain ⟨r0,r1,r2,r3,r4⟩:=H.out.2.rb.k
     have rl:=H.out.2.rb.lt
     obtain ⟨g0,g1,g2,g3,g4⟩:=H.out.2.rb.free
     clear HA H
     go_wp2
     exact bodyPost_ret (v:=.tuple #[.agg #[.slice none 0 0,.int .i64 0,.int .i64 0,.int .i64 0,.int .i64 0],.int .i64 1]) (by simp only [results,Tryz.results25];go_simp <;> rfl) rfl HF.out
    ·by_cases h6:6<x
     ·have HF:=Lh (HF0.out (by rw [HA.out];simp;omega) _ H.out.2)
      obtain ⟨r0,r1,r2,r3,r4⟩:=H.out.2.rb.k
      have rl:=H.out.2.rb.lt
      obtain ⟨g0,g1,g2,g3,g4⟩:=H.out.2.rb.free
      clear HA H
      go_wp2
      exact bodyPost_ret (v:=.tuple #[.agg #[.slice none 0 0,.int .i64 0,.int .i64 0,.int .i64 0,.int .i64 0],.int .i64 1]) (by simp only [results,Tryz.results25];go_simp <;> rfl) rfl HF.out
     ·have HN:=Lh (show ascB (-1) cs=ascB x (cs.drop (k+1))/\Jn w r cs (some ⟨b,o,none⟩) c wr from ⟨by rw [HA.out];simp;omega,H.out.2⟩)
      clear HA H
      go_wp2
      go_roundw
      case rel=>exact ⟨k+1,x,by omega,by go_num,rfl,HN⟩
      case measure=>simp [intOf];omega
   ·obtain rfl:k=cs.length:=by omega
    have HE0:=Lh (show E=0 from by rw [HE.out,H.out.1,asc_end];rfl)
    have HM:=Lh (HM.out HE0.out)
    have HJ:=Lh H.out.2
    clear H
    go_wp2_with fail
    refine (HCL.out _ HJ.out).mono ?_
    rintro e w2 ⟨A2,c2,rfl,hn,hl,hb⟩
    have HJ2:=Lh (HJ.out.below hb)
    have HF:=Lh (show LE w M E (.returned (.tuple #[lv ⟨cs,0,0,0,0⟩ A2 c2,.int .i64 0])) (set5 w2 r ⟨cs,0,0,0,0⟩ A2 c2) from by rw [HE0.out,HM.out];exact le_out (l:=⟨cs,0,0,0,0⟩) HJ2.out.old HJ2.out.bel (nw_low hn (show r+1<=_ from HJ.out.rb.lt)) hl 0)
    clear hn hl hb HJ
    obtain ⟨r0,r1,r2,r3,r4⟩:=HJ2.out.rb.k
    have rl:=HJ2.out.rb.lt
    obtain ⟨g0,g1,g2,g3,g4⟩:=HJ2.out.rb.free
    clear HJ2
    go_wp2
    exact bodyPost_ret (v:=.tuple #[.agg #[.slice A2 cs.length c2,.int .i64 0,.int .i64 0,.int .i64 0,.int .i64 0],.int .i64 0]) (by simp only [results,Tryz.results25];go_simp <;> rfl) rfl HF.out
theorem astorestripe_any (a:Ar) (Y:Ax) (k t:Int) (s:St) (w:World) (har:AR w w.heap.size a Y) (hf:a.Few) (hs:wi s.sq 0 1099511627776=true/\wi s.ep 0 1099511627776=true/\wi s.rd 0 1099511627776=true/\wi s.ls 0 1099511627776=true):Calls Tryz.prog 127 #[av a Y,.int .i64 k,.int .i64 t,s.v] w (AE w (ssA a k t s) (slE a k t)):=by
 obtain ⟨p,hp⟩:∃ p,p=w.heap.size:=⟨_,rfl⟩
 obtain ⟨q,hq⟩:∃ q,q=w.heap.size+1:=⟨_,rfl⟩
 obtain ⟨r,hr⟩:∃ r,r=w.heap.size+2:=⟨_,rfl⟩
 have H0:=Lh (show Ci12 w p r a Y _ from by rw [hr,hp];exact Ci12.start3 har (.cells #[.int .i64 s.sq,.int .i64 s.ep,.int .i64 s.rd,.int .i64 s.ls] 63))
 have HT0:=Lh (show YT _ q s from by
  have h1:=YT.start (w.alloc (.cells #[.slice Y.A a.sl.length Y.c,.slice Y.A2 a.st.length Y.c2,.int .i64 a.ow,.int .i64 a.cap,.slice Y.A3 a.dl.length Y.c3,.int .i64 a.dir.vn,.slice Y.D.A a.dir.l.length Y.D.c,.slice Y.D.A2 a.dir.F.length Y.D.c2,.int .i64 a.ep,.int .i64 a.ck,.int .i64 a.ni] 36)) s 63
  rw [show (w.alloc (.cells #[.slice Y.A a.sl.length Y.c,.slice Y.A2 a.st.length Y.c2,.int .i64 a.ow,.int .i64 a.cap,.slice Y.A3 a.dl.length Y.c3,.int .i64 a.dir.vn,.slice Y.D.A a.dir.l.length Y.D.c,.slice Y.D.A2 a.dir.F.length Y.D.c2,.int .i64 a.ep,.int .i64 a.ck,.int .i64 a.ni] 36)).heap.size=w.heap.size+1 by simp,<-hq] at h1
  exact h1.up ((Below.refl _ _).alloc (nLR _) (.cells #[.slice none 0 0,.slice none 0 0,.int .i64 0,.int .i64 0,.slice none 0 0,.int .i64 0,.slice none 0 0,.slice none 0 0,.int .i64 0,.int .i64 0,.int .i64 0] 36)))
 have HPP:=Lh (show p=w.heap.size/\q=w.heap.size+1/\r=w.heap.size+2 from ⟨hp,hq,hr⟩)
 have HNM:=Lh (fun n W=>anumber_any n W)
 have HNS:=Lh hs
 have HLK:=Lh (fun W (k' : Ci12 w p r a Y W)=>asloterr_any a Y k t W (k'.ar.more k'.bel.size) hf)
 have HCL:=Lh (fun W (k:Ci12 w p r a Y W)=>aclone2_any a Y W (k.ar.more k.bel.size) hf)
 obtain ⟨E,hE⟩:∃ E,E=slE a k t:=⟨_,rfl⟩
 rw [<-hE] at HLK ⊢
 obtain ⟨TA,hTA⟩:∃ A,A=ssA a k t s:=⟨_,rfl⟩
 have HTA:=Lh (show TA=if E=0 then a.setSt k.toNat s else zA from by rw [hTA,hE];rfl)
 rw [<-hTA]
 have HEE:=Lh hE
 clear hp hq hr har hf hTA hE hs
 go_enter Tryz.func127,Tryz.ntmps127
 go_upto_region 1 with (fail)
 rw [<-HPP.out.2.2,<-HPP.out.2.1,<-HPP.out.1]
 generalize ((w.alloc (.cells #[.slice Y.A a.sl.length Y.c,.slice Y.A2 a.st.length Y.c2,.int .i64 a.ow,.int .i64 a.cap,.slice Y.A3 a.dl.length Y.c3,.int .i64 a.dir.vn,.slice Y.D.A a.dir.l.length Y.D.c,.slice Y.D.A2 a.dir.F.length Y.D.c2,.int .i64 a.ep,.int .i64 a.ck,.int .i64 a.ni] 36)).alloc (.cells #[.int .i64 s.sq,.int .i64 s.ep,.int .i64 s.rd,.int .i64 s.ls] 63)).alloc (.cells #[.slice none 0 0,.slice none 0 0,.int .i64 0,.int .i64 0,.slice none 0 0,.int .i64 0,.slice none 0 0,.slice none 0 0,.int .i64 0,.int .i64 0,.int .i64 0] 36)=w1 at*
 obtain ⟨y0,y1,y2,y3,y4,y5,y6,y7,y8,y9,y10⟩:=H0.out.pb.k
 have yl:=H0.out.pb.lt
 go_wp2_with fail
 clear y0 y1 y2 y3 y4 y5 y6 y7 y8 y9 y10 yl
 refine (HLK.out _ H0.out).mono ?_
 rintro e w2 ⟨rfl,hb⟩
 have H1:=Lh (H0.out.below hb)
 have HT1:=Lh (HT0.out.up hb)
 clear hb H0 HLK HT0
 by_cases hE0:E=0
 ·have HA2:=Lh (HTA.out.trans (if_pos hE0))
  obtain ⟨n,hn⟩:∃ n:Nat,n=k.toNat:=⟨_,rfl⟩
  have HN:=Lh (show k=(n:Int)/\n<a.sl.length/\n<a.st.length from by rw [hn];exact sl_nat (HEE.out.symm.trans hE0))
  rw [<-hn] at HA2
  clear HTA HEE hn
  subst hE0
  obtain ⟨⟨t0,t1,t2,t3⟩,tl⟩:=HT1.out
  go_wp2_with fail
  refine (HNM.out _ _).mono ?_
  rintro e w2' ⟨rfl,rfl⟩
  rw [HNS.out.1]
  go_wp2_with fail
  refine (HNM.out _ _).mono ?_
  rintro e w2' ⟨rfl,rfl⟩
  rw [HNS.out.2.1]
  go_wp2_with fail
  refine (HNM.out _ _).mono ?_
  rintro e w2' ⟨rfl,rfl⟩
  rw [HNS.out.2.2.1]
  go_wp2_with fail
  refine (HNM.out _ _).mono ?_
  rintro e w2' ⟨rfl,rfl⟩
  rw [HNS.out.2.2.2]
  clear t0 t1 t2 t3 tl HNM HNS
  obtain ⟨y0,y1,y2,y3,y4,y5,y6,y7,y8,y9,y10⟩:=H1.out.pb.k
  have yl:=H1.out.pb.lt
  go_wp2_with fail
  clear y0 y1 y2 y3 y4 y5 y6 y7 y8 y9 y10 yl
  refine (HCL.out _ H1.out).mono ?_
  rintro e w3 ⟨Z,b,p',r',rfl,hnw,har,hb,ea,ec,hrow,o1,o2,o3,o4,hsr⟩
  have HC:=Lh (show Cb12 w p r b a Z (((((((((((w3.setCell ⟨p,0,none⟩ (.slice Z.A a.sl.length Z.c)).setCell ⟨p,1,none⟩ (.slice Z.A2 a.st.length Z.c2)).setCell ⟨p,2,none⟩ (.int .i64 a.ow)).setCell ⟨p,3,none⟩ (.int .i64 a.cap)).setCell ⟨p,4,none⟩ (.slice Z.A3 a.dl.length Z.c3)).setCell ⟨p,5,none⟩ (.int .i64 a.dir.vn)).setCell ⟨p,6,none⟩ (.slice Z.D.A a.dir.l.length Z.D.c)).setCell ⟨p,7,none⟩ (.slice Z.D.A2 a.dir.F.length Z.D.c2)).setCell ⟨p,8,none⟩ (.int .i64 a.ep)).setCell ⟨p,9,none⟩ (.int .i64 a.ck)).setCell ⟨p,10,none⟩ (.int .i64 a.ni)) from H1.out.copied hb hnw har ea ec hrow o1 o2 o3 o4)
  have HSR:=Lh (show Sr12 p' r' b a Z (((((((((((w3.setCell ⟨p,0,none⟩ (.slice Z.A a.sl.length Z.c)).setCell ⟨p,1,none⟩ (.slice Z.A2 a.st.length Z.c2)).setCell ⟨p,2,none⟩ (.int .i64 a.ow)).setCell ⟨p,3,none⟩ (.int .i64 a.cap)).setCell ⟨p,4,none⟩ (.slice Z.A3 a.dl.length Z.c3)).setCell ⟨p,5,none⟩ (.int .i64 a.dir.vn)).setCell ⟨p,6,none⟩ (.slice Z.D.A a.dir.l.length Z.D.c)).setCell ⟨p,7,none⟩ (.slice Z.D.A2 a.dir.F.length Z.D.c2)).setCell ⟨p,8,none⟩ (.int .i64 a.ep)).setCell ⟨p,9,none⟩ (.int .i64 a.ck)).setCell ⟨p,10,none⟩ (.int .i64 a.ni)) from fun h0=>by
   obtain ⟨b2,e2,hc2,hr2,hne2,oo⟩:=hsr h0
   have l1:w2.heap.size<=b2:=hnw.n2 _ e2
   exact ⟨b2,e2,hc2,hr2.set11 (show p≠b2 by have:=H1.out.pb.lt;omega) a Z,hne2,oo⟩)
  have HNW:=Lh (hnw.low (show r+1<=_ from H1.out.rb.lt))
  have H2:=Lh (H1.out.below hb)
  have HT2:=Lh (show YT (((((((((((w3.setCell ⟨p,0,none⟩ (.slice Z.A a.sl.length Z.c)).setCell ⟨p,1,none⟩ (.slice Z.A2 a.st.length Z.c2)).setCell ⟨p,2,none⟩ (.int .i64 a.ow)).setCell ⟨p,3,none⟩ (.int .i64 a.cap)).setCell ⟨p,4,none⟩ (.slice Z.A3 a.dl.length Z.c3)).setCell ⟨p,5,none⟩ (.int .i64 a.dir.vn)).setCell ⟨p,6,none⟩ (.slice Z.D.A a.dir.l.length Z.D.c)).setCell ⟨p,7,none⟩ (.slice Z.D.A2 a.dir.F.length Z.D.c2)).setCell ⟨p,8,none⟩ (.int .i64 a.ep)).setCell ⟨p,9,none⟩ (.int .i64 a.ck)).setCell ⟨p,10,none⟩ (.int .i64 a.ni)) q s from by
   have h1:=HT1.out.up hb
   have hpq:p≠q:=by have:=HPP.out;omega
   exact h1.far11 hpq a Z)
  clear hnw har hb ea ec hrow o1 o2 o3 o4 hsr H1 HCL HT1
  obtain ⟨y0,y1,y2,y3,y4,y5,y6,y7,y8,y9,y10⟩:=H2.out.pb.k
  have yl:=H2.out.pb.lt
  obtain ⟨f0,f1,f2,f3,f4,f5,f6,f7,f8,f9,f10⟩:=H2.out.pb.free
  go_upto_region 7 with (fail)
  clear y0 y1 y2 y3 y4 y5 y6 y7 y8 y9 y10 yl f0 f1 f2 f3 f4 f5 f6 f7 f8 f9 f10 H2
  generalize ((((((((((w3.setCell ⟨p,0,none⟩ (.slice Z.A a.sl.length Z.c)).setCell ⟨p,1,none⟩ (.slice Z.A2 a.st.length Z.c2)).setCell ⟨p,2,none⟩ (.int .i64 a.ow)).setCell ⟨p,3,none⟩ (.int .i64 a.cap)).setCell ⟨p,4,none⟩ (.slice Z.A3 a.dl.length Z.c3)).setCell ⟨p,5,none⟩ (.int .i64 a.dir.vn)).setCell ⟨p,6,none⟩ (.slice Z.D.A a.dir.l.length Z.D.c)).setCell ⟨p,7,none⟩ (.slice Z.D.A2 a.dir.F.length Z.D.c2)).setCell ⟨p,8,none⟩ (.int .i64 a.ep)).setCell ⟨p,9,none⟩ (.int .i64 a.ck)).setCell ⟨p,10,none⟩ (.int .i64 a.ni)=w4 at*
  obtain ⟨b2,e2,l2,⟨q0,q1,q2,q3⟩,qf,hcb⟩:=HC.out.stripe HSR.out HNW.out HN.out.2.2
  have HCB:=Lh (show Cb12 w p r b TA Z ((((w4.setCell ⟨b2,n*4,none⟩ (.int .i64 s.sq)).setCell ⟨b2,n*4+1,none⟩ (.int .i64 s.ep)).setCell ⟨b2,n*4+2,none⟩ (.int .i64 s.rd)).setCell ⟨b2,n*4+3,none⟩ (.int .i64 s.ls)) from HA2.out ▸ hcb s)
  have HNY:=Lh HNW.out
  have hin:=HN.out.1
  have hlt:=HN.out.2.2
  have hlt' : (n:Int)<(a.st.length:Int):=by omega
  obtain ⟨-,y1,-⟩:=HC.out.pb.k
  have yl:=HC.out.pb.lt
  rw [e2] at y1
  obtain ⟨⟨t0,t1,t2,t3⟩,tl⟩:=HT2.out
  have g0:=qf (n*4)
  have g1:=qf (n*4+1)
  have g2:=qf (n*4+2)
  have g3:=qf (n*4+3)
  subst hin
  clear hcb qf HC HSR HNW HA2 HT2 e2
  go_upto_region 8 with (fail)
  clear q0 q1 q2 q3 g0 g1 g2 g3 t0 t1 t2 t3 tl y1 yl hlt hlt'
  generalize (((w4.setCell ⟨b2,n*4,none⟩ (.int .i64 s.sq)).setCell ⟨b2,n*4+1,none⟩ (.int .i64 s.ep)).setCell ⟨b2,n*4+2,none⟩ (.int .i64 s.rd)).setCell ⟨b2,n*4+3,none⟩ (.int .i64 s.ls)=w6 at*
  have HF:=Lh (ae_out (show w.heap.size<=r by have:=HCB.out.ne;omega) HCB.out.bel HNY.out (nLR r) HCB.out.ar 0)
  obtain ⟨y0,y1,y2,y3,y4,y5,y6,y7,y8,y9,y10⟩:=HCB.out.pb.k
  have yl:=HCB.out.pb.lt
  obtain ⟨r0,r1,r2,r3,r4,r5,r6,r7,r8,r9,r10⟩:=HCB.out.rb.k
  have rl:=HCB.out.rb.lt
  obtain ⟨f0,f1,f2,f3,f4,f5,f6,f7,f8,f9,f10⟩:=HCB.out.rb.free
  have hpr:¬p=r:=by have:=HCB.out.ne;omega
  have hrp:¬r=p:=fun e=>hpr e.symm
  clear HCB HNY
  go_wp2
  exact bodyPost_ret (v:=.tuple #[av TA Z,.int .i64 0]) (by simp only [results,Tryz.results127];go_simp <;> rfl) rfl HF.out
 ·have hne:(E != 0)=true:=bne_iff_ne.2 hE0
  have HA2:=Lh (HTA.out.trans (if_neg hE0))
  have HF:=Lh (show AE w TA E (.returned (.tuple #[.agg #[.slice none 0 0,.slice none 0 0,.int .i64 0,.int .i64 0,.slice none 0 0,.int .i64 0,.slice none 0 0,.slice none 0 0,.int .i64 0,.int .i64 0,.int .i64 0],.int .i64 E])) (set11 w2 r zA zAx) from by
   rw [HA2.out]
   exact ae_out (show w.heap.size<=r by have:=H1.out.ne;omega) H1.out.bel (zAx_nw _) (nLR r) AR.zero E)
  obtain ⟨r0,r1,r2,r3,r4,r5,r6,r7,r8,r9,r10⟩:=H1.out.rb.k
  have rl:=H1.out.rb.lt
  obtain ⟨f0,f1,f2,f3,f4,f5,f6,f7,f8,f9,f10⟩:=H1.out.rb.free
  clear HTA HEE HA2 H1 HCL hE0
  go_wp2
  exact bodyPost_ret (v:=.tuple #[.agg #[.slice none 0 0,.slice none 0 0,.int .i64 0,.int .i64 0,.slice none 0 0,.int .i64 0,.slice none 0 0,.slice none 0 0,.int .i64 0,.int .i64 0,.int .i64 0],.int .i64 E]) (by simp only [results,Tryz.results127];go_simp <;> rfl) rfl HF.out
def ldS (a:Ar) (i:Int):Sh:=if islB a i=true then (og a.sl i.toNat).sh else zS
def ldE (a:Ar) (i:Int):Int:=if islB a i=true then 0 else 1
theorem isl_nat {a:Ar} {i:Int} (h:islB a i=true):i=(i.toNat:Int)/\i.toNat<a.sl.length/\i.toNat<a.st.length:=by
 have:=wi_of h
 omega
structure Ls12 (w:World) (p r:Nat) (a:Ar) (Y:Ax) (W:World):Prop where
 aw:Aw12 w p a Y W
 rb:SB8 W r zS zX
 rn:w.heap.size<=r/\p<r
theorem Ls12.below {w W W' : World} {p r:Nat} {a:Ar} {Y:Ax} (h:Ls12 w p r a Y W) (hb:Below W.heap.size W W'):Ls12 w p r a Y W':=⟨h.aw.below hb,h.rb.up hb,h.rn⟩
theorem Ls12.start {w:World} {a:Ar} {Y:Ax} (har:AR w w.heap.size a Y):Ls12 w w.heap.size (w.heap.size+1) a Y ((w.alloc (.cells #[.slice Y.A a.sl.length Y.c,.slice Y.A2 a.st.length Y.c2,.int .i64 a.ow,.int .i64 a.cap,.slice Y.A3 a.dl.length Y.c3,.int .i64 a.dir.vn,.slice Y.D.A a.dir.l.length Y.D.c,.slice Y.D.A2 a.dir.F.length Y.D.c2,.int .i64 a.ep,.int .i64 a.ck,.int .i64 a.ni] 36)).alloc (.cells #[.bool false,.int .i64 0,.int .i64 0,.slice none 0 0,.int .i64 0,.int .i64 0,.slice none 0 0,.slice none 0 0] 72)):=by
 have h1:=SB8.zero (w.alloc (.cells #[.slice Y.A a.sl.length Y.c,.slice Y.A2 a.st.length Y.c2,.int .i64 a.ow,.int .i64 a.cap,.slice Y.A3 a.dl.length Y.c3,.int .i64 a.dir.vn,.slice Y.D.A a.dir.l.length Y.D.c,.slice Y.D.A2 a.dir.F.length Y.D.c2,.int .i64 a.ep,.int .i64 a.ck,.int .i64 a.ni] 36)) 72
 rw [show (w.alloc (.cells #[.slice Y.A a.sl.length Y.c,.slice Y.A2 a.st.length Y.c2,.int .i64 a.ow,.int .i64 a.cap,.slice Y.A3 a.dl.length Y.c3,.int .i64 a.dir.vn,.slice Y.D.A a.dir.l.length Y.D.c,.slice Y.D.A2 a.dir.F.length Y.D.c2,.int .i64 a.ep,.int .i64 a.ck,.int .i64 a.ni] 36)).heap.size=w.heap.size+1 by simp] at h1
 exact ⟨(Aw12.start (Below.refl _ _) har).below ((Below.refl _ _).alloc (nLR _) _),h1,by omega,by omega⟩
theorem se_out {w W:World} {r:Nat} {S:Sh} {D:Sx} (hr:w.heap.size<=r) (hb:Below w.heap.size w W) (hn:D.nw (r+1)) (hs:SR W W.heap.size S D) (x:Int):SE w S x (.returned (.tuple #[sv S D,.int .i64 x])) (set8s W r S D):=
 ⟨D,rfl,hn.low (by omega),SR.sets (hn.off (Nat.lt_succ_self r)) (S.l8 D) 0 W hs,set8s_below hr hb S D⟩
theorem aloadslot_any (a:Ar) (Y:Ax) (i:Int) (w:World) (har:AR w w.heap.size a Y) (hf:a.Few):Calls Tryz.prog 88 #[av a Y,.int .i64 i] w (SE w (ldS a i) (ldE a i)):=by
 obtain ⟨p,hp⟩:∃ p,p=w.heap.size:=⟨_,rfl⟩
 obtain ⟨r,hr⟩:∃ r,r=w.heap.size+1:=⟨_,rfl⟩
 have H0:=Lh (show Ls12 w p r a Y _ from by rw [hr,hp];exact Ls12.start har)
 have HPP:=Lh (And.intro hp hr)
 have HIS:=Lh (fun W=>aisslot_any a Y i W hf)
 have HFW:=Lh hf
 obtain ⟨b,hb0⟩:∃ b,b=islB a i:=⟨_,rfl⟩
 obtain ⟨LS,hLS⟩:∃ L,L=ldS a i:=⟨_,rfl⟩
 obtain ⟨LE,hLE⟩:∃ L,L=ldE a i:=⟨_,rfl⟩
 have HLS:=Lh (show (LS=if b=true then (og a.sl i.toNat).sh else zS)/\LE=if b=true then 0 else 1 from ⟨by rw [hLS,hb0];rfl,by rw [hLE,hb0];rfl⟩)
 have HBB:=Lh hb0
 rw [<-hb0] at HIS
 rw [<-hLS,<-hLE]
 clear hp hr har hf hb0 hLS hLE
 go_enter Tryz.func88,Tryz.ntmps88
 go_upto_region 1 with (fail)
 rw [<-HPP.out.2,<-HPP.out.1]
 generalize (w.alloc (.cells #[.slice Y.A a.sl.length Y.c,.slice Y.A2 a.st.length Y.c2,.int .i64 a.ow,.int .i64 a.cap,.slice Y.A3 a.dl.length Y.c3,.int .i64 a.dir.vn,.slice Y.D.A a.dir.l.length Y.D.c,.slice Y.D.A2 a.dir.F.length Y.D.c2,.int .i64 a.ep,.int .i64 a.ck,.int .i64 a.ni] 36)).alloc (.cells #[.bool false,.int .i64 0,.int .i64 0,.slice none 0 0,.int .i64 0,.int .i64 0,.slice none 0 0,.slice none 0 0] 72)=w1 at*
 obtain ⟨y0,y1,y2,y3,y4,y5,y6,y7,y8,y9,y10⟩:=H0.out.aw.qb.k
 have yl:=H0.out.aw.qb.lt
 go_wp2_with fail
 clear y0 y1 y2 y3 y4 y5 y6 y7 y8 y9 y10 yl
 refine (HIS.out _).mono ?_
 rintro e w2 ⟨rfl,hb⟩
 have H1:=Lh (H0.out.below hb)
 clear hb H0 HIS
 cases b with
 | true=>
  have HN:=Lh (isl_nat HBB.out.symm)
  obtain ⟨n,hn⟩:∃ n:Nat,n=i.toNat:=⟨_,rfl⟩
  have HS2:=Lh (show LS=(og a.sl n).sh/\LE=0 from ⟨by rw [hn];exact HLS.out.1.trans (if_pos rfl),HLS.out.2.trans (if_pos rfl)⟩)
  rw [<-hn] at HN
  obtain ⟨D,b,o,hA,hb,h9,hsr,-⟩:=H1.out.aw.ar.at2 HN.out.2.1
  have h3:=HFW.out.sh (og a.sl n) (by rw [og_get HN.out.2.1];exact List.getElem_mem _)
  rw [<-HS2.out.1] at h9 hsr h3
  generalize (og a.sl n).ow=x at*
  have HCS:=Lh (cshard_any LS D w2 hsr h3.1 h3.2.1 h3.2.2)
  obtain ⟨q0,q1,q2,q3,q4,q5,q6,q7,q8⟩:=h9
  simp only at q0 q1 q2 q3 q4 q5 q6 q7 q8
  have hin:=HN.out.1
  have hlt:=HN.out.2.1
  have hlt' : (n:Int)<(a.sl.length:Int):=by omega
  obtain ⟨y0,-⟩:=H1.out.aw.qb.k
  have yl:=H1.out.aw.qb.lt
  rw [hA] at y0
  subst hin
  clear hn hA h3 hsr HLS HBB
  go_wp2_with fail
  clear q0 q1 q2 q3 q4 q5 q6 q7 q8 y0 yl hb
  refine HCS.out.mono ?_
  rintro e w3 ⟨E,rfl,hn,hr,hb⟩
  have H2:=Lh (H1.out.below hb)
  have HF:=Lh (show SE w LS LE (.returned (.tuple #[sv LS E,.int .i64 0])) (set8s w3 r LS E) from by
   rw [HS2.out.2]
   exact se_out H2.out.rn.1 H2.out.aw.bel (hn.low H1.out.rb.lt) hr 0)
  obtain ⟨r0,r1,r2,r3,r4,r5,r6,r7,rl⟩:=H2.out.rb.facts
  obtain ⟨f0,f1,f2,f3,f4,f5,f6,f7⟩:=H2.out.rb.free
  clear hn hr hb H1 H2 HS2
  go_wp2
  exact bodyPost_ret (v:=.tuple #[sv LS E,.int .i64 0]) (by simp only [results,Tryz.results88];go_simp <;> rfl) rfl HF.out
 | false=>
  have HS2:=Lh (show LS=zS/\LE=1 from ⟨HLS.out.1.trans (if_neg (by decide)),HLS.out.2.trans (if_neg (by decide))⟩)
  have HF:=Lh (show SE w LS LE (.returned (.tuple #[.agg #[.bool false,.int .i64 0,.int .i64 0,.slice none 0 0,.int .i64 0,.int .i64 0,.slice none 0 0,.slice none 0 0],.int .i64 1])) (set8s w2 r zS zX) from by
   rw [HS2.out.1,HS2.out.2]
   exact se_out H1.out.rn.1 H1.out.aw.bel (zX_nw _) SR.zero 1)
  obtain ⟨r0,r1,r2,r3,r4,r5,r6,r7,rl⟩:=H1.out.rb.facts
  obtain ⟨f0,f1,f2,f3,f4,f5,f6,f7⟩:=H1.out.rb.free
  clear H1 HS2 HLS HBB
  go_wp2
  exact bodyPost_ret (v:=.tuple #[.agg #[.bool false,.int .i64 0,.int .i64 0,.slice none 0 0,.int .i64 0,.int .i64 0,.slice none 0 0,.slice none 0 0],.int .i64 1]) (by simp only [results,Tryz.results88];go_simp <;> rfl) rfl HF.out
structure Ca12 (a:Ar) (n:Nat):Prop where
 sl:a.sl.length=n
 st:a.st.length=n
 fw:a.Few
 sq:∀ i,i<n->(tg a.st i).sq=0
 ow:∀ i,i<n->a.own i=0
theorem ca_nw {s:Su} (hs:s.Ok):nwAE s=0/\∃ n,0<n/\n<=6/\Ca12 (nwA s) n:=by
 have hb:=suB_iff.2 hs
 refine ⟨if_pos hb,s.sl.toNat,?_⟩
 have hf:=few_nw hb
 have hok:=hs
 unfold Su.Ok at hok
 have e:nwA s=grA s s.sl.toNat s.sl.toNat s.dd:=if_pos hb
 rw [e] at hf ⊢
 refine ⟨by omega,by omega,grA_sl _ _ _ _,grA_st _ _ _ _,hf,fun i hi=>?_,fun i hi=>?_⟩
 ·show ((List.replicate s.sl.toNat (stE s)).getD i zSt).sq=0
  rw [List.getD_eq_getElem?_getD,List.getElem?_replicate,if_pos hi]
  rfl
 ·unfold Ar.own
  rw [grA_sl,if_neg (by omega),og_get (by rw [grA_sl];exact hi)]
  simp [grA,nwSl]
theorem lk_09 {n v:Nat} {t:Int} (hv:v<=n) (h1:1<=t) (h2:t<=9):lkE n (v:Int) t=0:=by
 unfold lkE rgE
 rw [if_pos (wi_true (by omega) (by omega)),if_pos (wi_true h1 (by omega))]
section
variable {a:Ar} {n v:Nat} {t m:Int}
theorem isl_t (h1:a.sl.length=n) (h2:a.st.length=n) (hv:v<n):islB a (v:Int)=true:=wi_true (by omega) (by omega)
theorem ow_t (h1:a.sl.length=n) (hv:v<n) (t1:1<=t) (t2:t<=9):owE a (v:Int) t=if a.own v=t then 0 else 13:=by
 unfold owE
 rw [h1,if_pos (lk_09 (by omega) t1 t2)]
 rfl
theorem slE_t (h1:a.sl.length=n) (h2:a.st.length=n) (hv:v<n) (t1:1<=t) (t2:t<=9):slE a (v:Int) t=if a.own v=t then 0 else 13:=by
 unfold slE
 rw [if_pos (isl_t h1 h2 hv)]
 exact ow_t h1 hv t1 t2
theorem tl_t (h1:a.sl.length=n) (hv:v<n) (t1:1<=t) (t2:t<=9) (h0:a.own v=0):tlA a (v:Int) t=a.setOwn v t/\tlB a (v:Int) t=true:=by
 have hl:=lk_09 (n:=n) (v:=v) (by omega) t1 t2
 refine ⟨?_,?_⟩
 ·unfold tlA
  rw [h1,if_pos hl]
  show a.setOwn v (if a.own v=0 then t else a.own v)=_
  rw [if_pos h0]
 ·unfold tlB
  rw [h1]
  exact decide_eq_true ⟨hl,h0⟩
theorem Ar.Few.stripe (h:a.Few) (i:Nat) (s:St):(a.setSt i s).Few:=⟨h.sl,by show (a.st.set i s).length<=1000;rw [List.length_set];exact h.st,h.dl,h.dr,h.sh⟩
end
end Go.Proofs.YtkecnihgjepfeaaGreat
/- Plain: lockers that are stepped in turn: who owns what, and that all come to an end. -/
namespace Go.Proofs.YtkecnihgjepfeaaGreat
open Go.RowKit
set_option linter.unusedVariables false
set_option linter.unusedSimpArgs false
set_option maxHeartbeats 8000000
set_option maxRecDepth 20000
def Lk.h (l:Lk):Nat:=l.hv.toNat
structure Ok13 (N:Nat) (T:Int) (l:Lk):Prop where
 l1:1<=l.cs.length
 l3:l.cs.length<=3
 asc:∀ i j,i<j->j<l.cs.length->ig l.cs i<ig l.cs j
 rng:∀ i,i<l.cs.length->0<=ig l.cs i/\ig l.cs i<=N
 hv:l.hv=(l.h:Int)
 tr:0<=l.tr/\l.tr<=T
 wt:0<=l.wt/\l.wt<=3
 p:(l.ph=0/\l.h<l.cs.length)\/(l.ph=1/\1<=l.h/\l.h<l.cs.length)\/(l.ph=2/\l.h=0/\1<=l.wt)\/(l.ph=3/\l.h=l.cs.length)\/(l.ph=4/\1<=l.h/\l.h<=l.cs.length)\/(l.ph=5/\l.h=0)
def Hl (l:Lk) (c:Nat):Prop:=∃ i,i<l.h/\ig l.cs i=(c:Int)
structure Iv13 (N:Nat) (T:Int) (o:Nat->Int) (L:List Lk):Prop where
 ok:∀ (j:Nat) (l:Lk),L[j]? = some l->Ok13 N T l
 own:∀ (j:Nat) (l:Lk) (c:Nat),L[j]? = some l->c<=N->(o c=(j:Int)+1↔Hl l c)
 fr:∀ c:Nat,c<=N->o c=0\/∃ j:Nat,j<L.length/\o c=(j:Int)+1
def Upd (N:Nat) (o:Nat->Int) (c:Nat) (v:Int) (o' : Nat->Int):Prop:=∀ x,x<=N->o' x=if x=c then v else o x
inductive St13 (N:Nat) (o:Nat->Int) (k:Nat) (l:Lk):(Nat->Int)->Lk->Prop
 | acq (c:Nat) (o' : Nat->Int):l.ph=0->l.h<l.cs.length->ig l.cs l.h=(c:Int)->c<=N->o c=0->Upd N o c ((k:Int)+1) o'->St13 N o k l o' ⟨l.cs,if l.hv+1=l.cs.length then 3 else l.ph,l.hv+1,l.tr,l.wt⟩
 | fail (c:Nat) (o' : Nat->Int):l.ph=0->l.h<l.cs.length->ig l.cs l.h=(c:Int)->c<=N->o c≠0->(∀ x,x<=N->o' x=o x)->St13 N o k l o' (if 0<l.hv then ⟨l.cs,1,l.hv,l.tr,l.wt⟩ else l)
 | rel (c:Nat) (o' : Nat->Int):l.ph=1\/l.ph=4->1<=l.h->l.h<=l.cs.length->ig l.cs (l.h - 1)=(c:Int)->c<=N->o c=(k:Int)+1->Upd N o c 0 o'->St13 N o k l o' (gbL l)
 | pause (o' : Nat->Int):l.ph=2->(∀ x,x<=N->o' x=o x)->St13 N o k l o' (pzL l)
section
variable {N:Nat} {T:Int} {o o' : Nat->Int} {L:List Lk} {k:Nat} {l l' : Lk}
end
end Go.Proofs.YtkecnihgjepfeaaGreat
/- Plain: lockers that are stepped in turn all come to an end: a number that falls in each round. -/
namespace Go.Proofs.YtkecnihgjepfeaaGreat
open Go.RowKit
set_option linter.unusedVariables false
set_option linter.unusedSimpArgs false
set_option maxHeartbeats 8000000
set_option maxRecDepth 20000
def un13 (l:Lk):Nat:=if l.ph<=2 then 1 else 0
def Un13 (L:List Lk):Nat:=(L.map un13).sum
def Done13 (L:List Lk):Prop:=∀ (j:Nat) (l:Lk),L[j]? = some l->l.ph=5
inductive Pot13 (N:Nat) (o:Nat->Int) (L:List Lk) (P j:Nat):Prop
 | top (l:Lk) (m:Nat):L[j]? = some l->1<=l.h->ig l.cs (l.h - 1)=(m:Int)->m<=N->(∀ c,c<=N->m<c->o c=0)->(l.ph=0/\P=20*Un13 L+(6 - m))\/((l.ph=1\/l.ph=3\/l.ph=4)/\P=20*Un13 L+13+m)->Pot13 N o L P j
 | none (l:Lk):L[j]? = some l->(∀ c,c<=N->o c=0)->(l.ph=0/\P=20*Un13 L+8)\/(l.ph=2/\P=20*Un13 L+8+l.wt.toNat)->Pot13 N o L P j
section
variable {N:Nat} {T:Int} {o o' : Nat->Int} {L:List Lk} {k j P:Nat} {l l' : Lk}
variable {P0 j0:Nat}
end
end Go.Proofs.YtkecnihgjepfeaaGreat
