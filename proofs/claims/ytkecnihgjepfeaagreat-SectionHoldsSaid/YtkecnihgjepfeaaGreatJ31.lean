/- What is proved here: parts of the proof: Qlk Qr Qn Qaw Qac Qul. -/
import Derived.Test.YtkecnihgjepfeaaGreatJ30
namespace Go.Proofs.YtkecnihgjepfeaaGreat
open Go.RowKit
set_option linter.unusedVariables false
set_option linter.unusedSimpArgs false
set_option maxHeartbeats 8000000
set_option maxRecDepth 20000
def A3P (w:World) (a:Ar) (ok:Bool) (x:Int) (e:Ending) (w' : World):Prop:=∃ Y,e=.returned (.tuple #[av a Y,.bool ok,.int .i64 x])/\Y.nw w.heap.size/\AR w' w'.heap.size a Y/\Below w.heap.size w w'
theorem a3_out {w W:World} {r:Nat} {a:Ar} {Y:Ax} (hr:w.heap.size<=r) (hb:Below w.heap.size w W) (hn:Y.nw (r+1)) (hs:AR W W.heap.size a Y) (ok:Bool) (x:Int):A3P w a ok x (.returned (.tuple #[av a Y,.bool ok,.int .i64 x])) (set11 W r a Y):=
 ⟨Y,rfl,hn.low (by omega),(hs.set11 (hn.off (Nat.lt_succ_self r)) a Y).more (by rw [set11_size];exact nLR _),set11_below hb hr a Y⟩
def tlA (a:Ar) (k t:Int):Ar:=if lkE a.sl.length k t=0 then a.setOwn k.toNat (if a.own k.toNat=0 then t else a.own k.toNat) else zA
def tlB (a:Ar) (k t:Int):Bool:=decide (lkE a.sl.length k t=0/\a.own k.toNat=0)
theorem atrylock_any (a:Ar) (Y:Ax) (k t:Int) (w:World) (har:AR w w.heap.size a Y) (hf:a.Few):Calls Tryz.prog 150 #[av a Y,.int .i64 k,.int .i64 t] w (A3P w (tlA a k t) (tlB a k t) (lkE a.sl.length k t)):=by
 obtain ⟨p,hp⟩:∃ p,p=w.heap.size:=⟨_,rfl⟩
 obtain ⟨r,hr⟩:∃ r,r=w.heap.size+1:=⟨_,rfl⟩
 have H0:=Lh (show Ci12 w p r a Y _ from by rw [hr,hp];exact Ci12.start har)
 have HPP:=Lh (And.intro hp hr)
 have HLK:=Lh (fun W=>alockerr_any a Y k t W)
 have HCL:=Lh (fun W (k:Ci12 w p r a Y W)=>aclone_any a Y W (k.ar.more k.bel.size) hf)
 have HFW:=Lh hf
 obtain ⟨E,hE⟩:∃ E,E=lkE a.sl.length k t:=⟨_,rfl⟩
 rw [<-hE] at HLK ⊢
 obtain ⟨TA,hTA⟩:∃ A,A=tlA a k t:=⟨_,rfl⟩
 obtain ⟨TB,hTB⟩:∃ A,A=tlB a k t:=⟨_,rfl⟩
 have HTA:=Lh (show TA=if E=0 then a.setOwn k.toNat (if a.own k.toNat=0 then t else a.own k.toNat) else zA from by rw [hTA,hE];rfl)
 have HTB:=Lh (show TB=decide (E=0/\a.own k.toNat=0) from by rw [hTB,hE];rfl)
 rw [<-hTA,<-hTB]
 have HEE:=Lh hE
 clear hp hr har hf hTA hTB hE
 go_enter Tryz.func150,Tryz.ntmps150
 go_upto_region 1 with (fail)
 rw [<-HPP.out.2,<-HPP.out.1]
 generalize (w.alloc (.cells #[.slice Y.A a.sl.length Y.c,.slice Y.A2 a.st.length Y.c2,.int .i64 a.ow,.int .i64 a.cap,.slice Y.A3 a.dl.length Y.c3,.int .i64 a.dir.vn,.slice Y.D.A a.dir.l.length Y.D.c,.slice Y.D.A2 a.dir.F.length Y.D.c2,.int .i64 a.ep,.int .i64 a.ck,.int .i64 a.ni] 36)).alloc (.cells #[.slice none 0 0,.slice none 0 0,.int .i64 0,.int .i64 0,.slice none 0 0,.int .i64 0,.slice none 0 0,.slice none 0 0,.int .i64 0,.int .i64 0,.int .i64 0] 36)=w1 at*
 obtain ⟨y0,y1,y2,y3,y4,y5,y6,y7,y8,y9,y10⟩:=H0.out.pb.k
 have yl:=H0.out.pb.lt
 go_wp2_with fail
 clear y0 y1 y2 y3 y4 y5 y6 y7 y8 y9 y10 yl
 refine (HLK.out _).mono ?_
 rintro e w2 ⟨rfl,hb⟩
 have H1:=Lh (H0.out.below hb)
 clear hb H0 HLK
 by_cases hE0:E=0
 ·have HA2:=Lh (HTA.out.trans (if_pos hE0))
  have HB2:=Lh (show TB=decide (a.own k.toNat=0) from by rw [HTB.out];simp [hE0])
  obtain ⟨n,hn⟩:∃ n:Nat,n=k.toNat:=⟨_,rfl⟩
  have HN:=Lh (show k=(n:Int)/\n<=a.sl.length from by
   have h:=HEE.out
   rw [hE0] at h
   unfold lkE at h
   by_cases hw:wi k 0 (a.sl.length:Int)=true
   ·have:=wi_of hw;omega
   ·rw [if_neg hw] at h;exact absurd h (by decide))
  rw [<-hn] at HA2 HB2
  clear HTA HTB HEE hn
  subst hE0
  obtain ⟨y0,y1,y2,y3,y4,y5,y6,y7,y8,y9,y10⟩:=H1.out.pb.k
  have yl:=H1.out.pb.lt
  go_wp2_with fail
  clear y0 y1 y2 y3 y4 y5 y6 y7 y8 y9 y10 yl
  refine (HCL.out _ H1.out).mono ?_
  rintro e w3 ⟨Z,b,rfl,hnw,har,hb,ea,ec,hrow,o1,o2,o3,o4⟩
  have HC:=Lh (show Cb12 w p r b a Z (((((((((((w3.setCell ⟨p,0,none⟩ (.slice Z.A a.sl.length Z.c)).setCell ⟨p,1,none⟩ (.slice Z.A2 a.st.length Z.c2)).setCell ⟨p,2,none⟩ (.int .i64 a.ow)).setCell ⟨p,3,none⟩ (.int .i64 a.cap)).setCell ⟨p,4,none⟩ (.slice Z.A3 a.dl.length Z.c3)).setCell ⟨p,5,none⟩ (.int .i64 a.dir.vn)).setCell ⟨p,6,none⟩ (.slice Z.D.A a.dir.l.length Z.D.c)).setCell ⟨p,7,none⟩ (.slice Z.D.A2 a.dir.F.length Z.D.c2)).setCell ⟨p,8,none⟩ (.int .i64 a.ep)).setCell ⟨p,9,none⟩ (.int .i64 a.ck)).setCell ⟨p,10,none⟩ (.int .i64 a.ni)) from H1.out.copied hb hnw har ea ec hrow o1 o2 o3 o4)
  have HNW:=Lh (hnw.low (show r+1<=_ from H1.out.rb.lt))
  have H2:=Lh (H1.out.below hb)
  clear hnw har hb ea ec hrow o1 o2 o3 o4 H1 HCL
  obtain ⟨y0,y1,y2,y3,y4,y5,y6,y7,y8,y9,y10⟩:=H2.out.pb.k
  have yl:=H2.out.pb.lt
  obtain ⟨f0,f1,f2,f3,f4,f5,f6,f7,f8,f9,f10⟩:=H2.out.pb.free
  go_upto_region 5 with (fail)
  clear y0 y1 y2 y3 y4 y5 y6 y7 y8 y9 y10 yl f0 f1 f2 f3 f4 f5 f6 f7 f8 f9 f10 H2
  generalize ((((((((((w3.setCell ⟨p,0,none⟩ (.slice Z.A a.sl.length Z.c)).setCell ⟨p,1,none⟩ (.slice Z.A2 a.st.length Z.c2)).setCell ⟨p,2,none⟩ (.int .i64 a.ow)).setCell ⟨p,3,none⟩ (.int .i64 a.cap)).setCell ⟨p,4,none⟩ (.slice Z.A3 a.dl.length Z.c3)).setCell ⟨p,5,none⟩ (.int .i64 a.dir.vn)).setCell ⟨p,6,none⟩ (.slice Z.D.A a.dir.l.length Z.D.c)).setCell ⟨p,7,none⟩ (.slice Z.D.A2 a.dir.F.length Z.D.c2)).setCell ⟨p,8,none⟩ (.int .i64 a.ep)).setCell ⟨p,9,none⟩ (.int .i64 a.ck)).setCell ⟨p,10,none⟩ (.int .i64 a.ni)=w4 at*
  have hkn:=HN.out.1
  have HOW:=Lh (aownerof_any a Z p b n w4 HC.out.pb HC.out.ea HC.out.ec.1 HN.out.2 HFW.out.sl.2)
  rw [<-hkn] at HOW
  clear hkn
  go_wp2_with fail
  refine HOW.out.mono ?_
  rintro e w5 ⟨rfl,hb⟩
  have HC2:=Lh (HC.out.below hb)
  obtain ⟨c1,c2,c3⟩:=HC2.out.at_ HN.out.2
  have HSW:=Lh (swap_any (ownP p b a.sl.length n) (a.own n) 0 t w5 c1 c2 c3)
  have HOK:=Lh (fun W (k:Cb12 w p r b a Z W) (v:Int)=>k.own HN.out.2 v)
  obtain ⟨P,hP⟩:∃ P,P=ownP p b a.sl.length n:=⟨_,rfl⟩
  rw [<-hP] at HSW HOK ⊢
  obtain ⟨x,hx⟩:∃ x,x=a.own n:=⟨_,rfl⟩
  rw [<-hx] at HSW HA2 HB2
  clear hb c1 c2 c3 hP hx HOW HC
  go_wp2_with fail
  refine HSW.out.mono ?_
  rintro e w6 ⟨rfl,w7,hb,hw6⟩
  have HX:=Lh (show ∃ Y' : Ax,Cb12 w p r b TA Y' w6/\Y'.nw (r+1) from by
   obtain ⟨Y',h1,h2⟩:=HOK.out w7 (HC2.out.below hb) (if x=0 then t else x)
   exact ⟨Y',by rw [hw6,HA2.out];exact h1,h2 _ HNW.out⟩)
  rw [<-HB2.out]
  clear hb hw6 HC2 HOK HSW HNW HA2 HB2
  obtain ⟨Y',hcb,hny⟩:=HX.out
  have HCB:=Lh hcb
  have HNY:=Lh hny
  clear hcb hny HX
  have HF:=Lh (a3_out (show w.heap.size<=r by have:=HCB.out.ne;omega) HCB.out.bel HNY.out HCB.out.ar TB 0)
  obtain ⟨y0,y1,y2,y3,y4,y5,y6,y7,y8,y9,y10⟩:=HCB.out.pb.k
  have yl:=HCB.out.pb.lt
  obtain ⟨r0,r1,r2,r3,r4,r5,r6,r7,r8,r9,r10⟩:=HCB.out.rb.k
  have rl:=HCB.out.rb.lt
  obtain ⟨f0,f1,f2,f3,f4,f5,f6,f7,f8,f9,f10⟩:=HCB.out.rb.free
  have hpr:¬p=r:=by have:=HCB.out.ne;omega
  have hrp:¬r=p:=fun e=>hpr e.symm
  clear HCB HNY
  go_wp2
  exact bodyPost_ret (v:=.tuple #[av TA Y',.bool TB,.int .i64 0]) (by simp only [results,Tryz.results150];go_simp <;> rfl) rfl HF.out
 ·have hne:(E != 0)=true:=bne_iff_ne.2 hE0
  have HA2:=Lh (HTA.out.trans (if_neg hE0))
  have HB2:=Lh (show TB=false from by rw [HTB.out];simp [hE0])
  have HF:=Lh (show A3P w TA TB E (.returned (.tuple #[.agg #[.slice none 0 0,.slice none 0 0,.int .i64 0,.int .i64 0,.slice none 0 0,.int .i64 0,.slice none 0 0,.slice none 0 0,.int .i64 0,.int .i64 0,.int .i64 0],.bool false,.int .i64 E])) (set11 w2 r zA zAx) from by
   rw [HA2.out,HB2.out]
   exact a3_out (show w.heap.size<=r by have:=H1.out.ne;omega) H1.out.bel (zAx_nw _) AR.zero false E)
  obtain ⟨r0,r1,r2,r3,r4,r5,r6,r7,r8,r9,r10⟩:=H1.out.rb.k
  have rl:=H1.out.rb.lt
  obtain ⟨f0,f1,f2,f3,f4,f5,f6,f7,f8,f9,f10⟩:=H1.out.rb.free
  clear HTA HTB HEE HA2 HB2 H1 HCL hE0
  go_wp2
  exact bodyPost_ret (v:=.tuple #[.agg #[.slice none 0 0,.slice none 0 0,.int .i64 0,.int .i64 0,.slice none 0 0,.int .i64 0,.slice none 0 0,.slice none 0 0,.int .i64 0,.int .i64 0,.int .i64 0],.bool false,.int .i64 E]) (by simp only [results,Tryz.results150];go_simp <;> rfl) rfl HF.out
theorem sg_nwL {n k i:Nat} (h:i<k):sg (nwL n k) i=⟨(i:Int)*65536 / n,((i:Int)+1)*65536 / n - 1,i⟩:=by
 rw [sg_get (by rw [nwL_len];exact h)]
 simp [nwL]
theorem nwD_ok {n m:Nat} (h1:1<=m) (h2:m<=n) (h3:n<=6):nwD n m=⟨1,nwL m m,List.replicate n (-1)⟩:=by
 have hE:nwE10 n m=0:=by unfold nwE10;rw [if_pos (by omega)]
 unfold nwD
 rw [if_pos hE]
 simp
theorem ffS_nw {n m:Nat} (h1:1<=m) (h2:m<=n) (h3:n<=6) (i k:Nat):ffS (nwD n m) i k=if i<m then neS (k:Int) (sg (nwD n m).l i).lo (sg (nwD n m).l i).hi else frS k:=by
 have hv:=nw_va h1 h2 h3
 have hl:(nwD n m).l=nwL m m:=by rw [nwD_ok h1 h2 h3]
 have hll:(nwD n m).l.length=m:=by rw [hl,nwL_len]
 unfold ffS spnB spnD
 rcases ixS_cases (nwD n m).l (i:Int) with ⟨e,hno⟩ | ⟨j,e,hj,hs,-⟩
 ·have hi:¬i<m:=fun h=>hno i (by omega) (by rw [hl,sg_nwL h])
  rw [if_neg (by rw [e];simp),if_neg hi]
 ·rw [hll] at hj
  have:j=i:=by rw [hl,sg_nwL hj] at hs;simp only at hs;omega
  subst this
  rw [if_pos (by rw [e];simp [hv]),if_pos hj,if_pos ⟨hv,by rw [e];omega⟩,e]
  simp
structure Gr12 (w:World) (p r z y:Nat) (s:Su) (i k:Nat) (A:Option Addr) (c1:Nat) (q:List Sl) (A2:Option Addr) (c2:Nat) (X:Dx) (W:World):Prop where
 gw:Gw12 w p r y s 0 i k A c1 q A2 c2 X W
 zb:Db10 W z (nwD s.sl s.lv) X
 zy:r<z/\z<y
section
variable {w W W' : World} {p r z y:Nat} {s:Su} {i k:Nat} {A A2:Option Addr} {c1 c2:Nat} {q:List Sl} {X:Dx}
end
structure Gx12 (w:World) (p r z y x:Nat) (w0:World) (s:Su) (i:Nat) (A:Option Addr) (c1:Nat) (q:List Sl) (A2:Option Addr) (c2:Nat) (X:Dx) (S:Sh) (D:Sx) (W:World):Prop where
 g0:Gr12 w p r z y s i i A c1 q A2 c2 X w0
 b0:Below w0.heap.size w0 W
 xb:SB8 W x S D
 xr:SR W W.heap.size S D
 xn:D.nw w0.heap.size
 xl:w0.heap.size<=x
section
variable {w w0 W W' : World} {p r z y x:Nat} {s:Su} {i:Nat} {A A2:Option Addr} {c1 c2:Nat} {q:List Sl} {X:Dx} {S S' : Sh} {D E:Sx}
abbrev C4q (p z b o m c k i:Nat) (M:Sp) (W:World):Prop:=W.cell? ⟨p,2,none⟩=some (.int .i64 (k:Int))/\W.cell? ⟨z,1,none⟩=some (.slice (some ⟨b,o,none⟩) m c)/\W.cell? ⟨b,o+i*3,none⟩=some (.int .i64 M.lo)/\W.cell? ⟨b,o+i*3+1,none⟩=some (.int .i64 M.hi)
end
theorem anew_any (s:Su) (w:World):Calls Tryz.prog 6 #[s.v] w (AE w (nwA s) (nwAE s)):=by
 have H0:=Lh (Pn12.start w s)
 have HIS:=Lh (fun W=>isset_any s W)
 have HDN:=Lh (fun W=>dnew_any s.sl s.lv W)
 have HDE:=Lh (fun W=>new8_any s.dd W)
 have HA:=Lh (rfl:nwA s=if suB s=true then grA s s.sl.toNat s.sl.toNat s.dd else zA)
 have HE:=Lh (rfl:nwAE s=if suB s=true then 0 else 1)
 obtain ⟨i0,hi0,hz0⟩:=Option.map_eq_some_iff.1 info_sl
 obtain ⟨i1,hi1,hz1⟩:=Option.map_eq_some_iff.1 info_st12
 simp only [Prod.mk.injEq] at hz0 hz1
 have HI:=Lh hi0
 have HZ:=Lh hz0
 have HI1:=Lh hi1
 have HZ1:=Lh hz1
 clear hi0 hz0 hi1 hz1
 obtain ⟨p,hp⟩:∃ p,p=w.heap.size:=⟨_,rfl⟩
 obtain ⟨r,hr⟩:∃ r,r=w.heap.size+1:=⟨_,rfl⟩
 have HPP:=Lh (And.intro hp hr)
 clear hp hr
 cases hs:suB s with
 | false=>
  rw [hs] at HIS
  have HA2:=Lh (show nwA s=zA from HA.out.trans (if_neg (by rw [hs];decide)))
  have HE2:=Lh (show nwAE s=1 from HE.out.trans (if_neg (by rw [hs];decide)))
  clear hs HA HE
  go_enter Tryz.func6,Tryz.ntmps6
  obtain ⟨k0,k1,k2,k3,k4,k5,k6,k7⟩:=H0.out.sb.k
  have kl:=H0.out.sb.lt
  go_wp2_with fail
  clear k0 k1 k2 k3 k4 k5 k6 k7 kl
  rw [<-HPP.out.2,<-HPP.out.1] at H0
  generalize (w.alloc (.cells #[.int .i64 s.sl,.int .i64 s.lv,.int .i64 s.cp,.int .i64 s.dd,.int .i64 s.lm,.int .i64 s.ck,.int .i64 s.ni,.int .i64 s.ep] 41)).alloc (.cells #[.slice none 0 0,.slice none 0 0,.int .i64 0,.int .i64 0,.slice none 0 0,.int .i64 0,.slice none 0 0,.slice none 0 0,.int .i64 0,.int .i64 0,.int .i64 0] 36)=w1 at*
  rw [<-HPP.out.2,<-HPP.out.1]
  refine (HIS.out _).mono ?_
  rintro e w2 ⟨rfl,hb⟩
  have H1:=Lh (H0.out.below hb)
  clear hb H0
  obtain ⟨k0,k1,k2,k3,k4,k5,k6,k7,k8,k9,k10⟩:=H1.out.rb.k
  obtain ⟨f0,f1,f2,f3,f4,f5,f6,f7,f8,f9,f10⟩:=H1.out.rb.free
  have kl:=H1.out.rb.lt
  have HF:=Lh (show AE w (nwA s) (nwAE s) (.returned (.tuple #[av zA zAx,.int .i64 1])) (set11 w2 r zA zAx) from by
   rw [HA2.out,HE2.out]
   have:=H1.out.ne
   exact ae_out (y:=r) (by omega) H1.out.bel (zAx_nw _) (nLR _) AR.zero 1)
  clear HA2 HE2 H1
  go_wp2
  exact bodyPost_ret (v:=.tuple #[.agg #[.slice none 0 0,.slice none 0 0,.int .i64 0,.int .i64 0,.slice none 0 0,.int .i64 0,.slice none 0 0,.slice none 0 0,.int .i64 0,.int .i64 0,.int .i64 0],.int .i64 1]) (by simp only [results,Tryz.results6];go_simp <;> rfl) rfl HF.out
 | true=>
  have HOK:=Lh (suB_iff.1 hs)
  rw [hs] at HIS
  have HA2:=Lh (show nwA s=grA s s.sl.toNat s.sl.toNat s.dd from HA.out.trans (if_pos hs))
  have HE2:=Lh (show nwAE s=0 from HE.out.trans (if_pos hs))
  have HCP:=Lh (show nw8 s.dd=s.dd from if_pos (wi_true HOK.out.2.2.2.1.1 HOK.out.2.2.2.1.2))
  obtain ⟨n,hn⟩:∃ n:Nat,n=s.sl.toNat:=⟨_,rfl⟩
  have HNN:=Lh (show s.sl=(n:Int)/\n<=6 from by have:=HOK.out;unfold Su.Ok at this;omega)
  obtain ⟨k,hk⟩:∃ k:Nat,k=s.cp.toNat:=⟨_,rfl⟩
  have HKK:=Lh (show s.cp=(k:Int)/\1<=k/\k<=12/\k=s.cp.toNat from by have:=HOK.out;unfold Su.Ok at this;omega)
  rw [<-hn] at HA2
  rw [HCP.out] at HDE
  clear hs HA HE HCP hn hk
  go_enter Tryz.func6,Tryz.ntmps6
  obtain ⟨k0,k1,k2,k3,k4,k5,k6,k7⟩:=H0.out.sb.k
  have kl:=H0.out.sb.lt
  go_wp2_with fail
  clear k0 k1 k2 k3 k4 k5 k6 k7 kl
  rw [<-HPP.out.2,<-HPP.out.1] at H0
  generalize (w.alloc (.cells #[.int .i64 s.sl,.int .i64 s.lv,.int .i64 s.cp,.int .i64 s.dd,.int .i64 s.lm,.int .i64 s.ck,.int .i64 s.ni,.int .i64 s.ep] 41)).alloc (.cells #[.slice none 0 0,.slice none 0 0,.int .i64 0,.int .i64 0,.slice none 0 0,.int .i64 0,.slice none 0 0,.slice none 0 0,.int .i64 0,.int .i64 0,.int .i64 0] 36)=w1 at*
  rw [<-HPP.out.2,<-HPP.out.1]
  refine (HIS.out _).mono ?_
  rintro e w2 ⟨rfl,hb⟩
  have H1:=Lh (H0.out.below hb)
  clear hb H0
  have HY1:=Lh (show Py12 w p r w2.heap.size s ⟨[],[],0,0,[],zD10,s.ep,s.ck,s.ni⟩ zAx (w2.alloc (.cells #[.slice none 0 0,.slice none 0 0,.int .i64 0,.int .i64 0,.slice none 0 0,.int .i64 0,.slice none 0 0,.slice none 0 0,.int .i64 s.ep,.int .i64 s.ck,.int .i64 s.ni] 36)) from ⟨H1.out.below ((Below.refl _ _).alloc (nLR _) _),QB.start w2 ⟨[],[],0,0,[],zD10,s.ep,s.ck,s.ni⟩ zAx _,H1.out.rb.lt⟩)
  obtain ⟨k0,k1,k2,k3,k4,k5,k6,k7⟩:=H1.out.sb.k
  have kl:=H1.out.sb.lt
  go_upto_region 4 with (fail)
  clear k0 k1 k2 k3 k4 k5 k6 k7 kl H1
  obtain ⟨y,hy⟩:∃ y,y=w2.heap.size:=⟨_,rfl⟩
  rw [<-hy] at HY1 ⊢
  clear hy
  generalize w2.alloc (.cells #[.slice none 0 0,.slice none 0 0,.int .i64 0,.int .i64 0,.slice none 0 0,.int .i64 0,.slice none 0 0,.slice none 0 0,.int .i64 s.ep,.int .i64 s.ck,.int .i64 s.ni] 36)=w3 at*
  obtain ⟨k0,k1,k2,k3,k4,k5,k6,k7⟩:=HY1.out.pn.sb.k
  have kl:=HY1.out.pn.sb.lt
  go_wp2_with fail
  clear k0 k1 k2 k3 k4 k5 k6 k7 kl
  refine (HDN.out _).mono ?_
  rintro e w4 ⟨X,rfl,hnw,hdr,hb⟩
  have HY2:=Lh (HY1.out.below hb)
  have HXN:=Lh (hnw.low (show y+1<=_ from HY1.out.yb.lt))
  have HDR:=Lh hdr
  clear hb hnw hdr HY1 HDN
  have HY3:=Lh (HY2.out.dir (nwD s.sl s.lv) X)
  have HDR3:=Lh ((((HDR.out.offp (q:=⟨y,5,none⟩) (HXN.out.off (Nat.lt_succ_self y)) (.int .i64 (nwD s.sl s.lv).vn)).offp (q:=⟨y,6,none⟩) (HXN.out.off (Nat.lt_succ_self y)) (.slice X.A (nwD s.sl s.lv).l.length X.c)).offp (q:=⟨y,7,none⟩) (HXN.out.off (Nat.lt_succ_self y)) (.slice X.A2 (nwD s.sl s.lv).F.length X.c2)).more (show w4.heap.size<=(((w4.setCell ⟨y,5,none⟩ (.int .i64 (nwD s.sl s.lv).vn)).setCell ⟨y,6,none⟩ (.slice X.A (nwD s.sl s.lv).l.length X.c)).setCell ⟨y,7,none⟩ (.slice X.A2 (nwD s.sl s.lv).F.length X.c2)).heap.size by simp))
  obtain ⟨k0,k1,k2,k3,k4,k5,k6,k7,k8,k9,k10⟩:=HY2.out.yb.k
  obtain ⟨f0,f1,f2,f3,f4,f5,f6,f7,f8,f9,f10⟩:=HY2.out.yb.free
  have kl:=HY2.out.yb.lt
  go_upto_region 5 with (fail)
  clear k0 k1 k2 k3 k4 k5 k6 k7 k8 k9 k10 f0 f1 f2 f3 f4 f5 f6 f7 f8 f9 f10 kl HY2 HDR
  generalize ((w4.setCell ⟨y,5,none⟩ (.int .i64 (nwD s.sl s.lv).vn)).setCell ⟨y,6,none⟩ (.slice X.A (nwD s.sl s.lv).l.length X.c)).setCell ⟨y,7,none⟩ (.slice X.A2 (nwD s.sl s.lv).F.length X.c2)=w5 at*
  obtain ⟨k0,k1,k2,k3,k4,k5,k6,k7⟩:=HY3.out.pn.sb.k
  have kl:=HY3.out.pn.sb.lt
  go_wp2_with fail
  clear k0 k1 k2 k3 k4 k5 k6 k7 kl
  refine (HDE.out _).mono ?_
  rintro e w6 ⟨rfl,hb⟩
  have HY4:=Lh (HY3.out.below hb)
  have HDR4:=Lh (HDR3.out.up hb)
  clear hb HY3 HDR3 HDE
  have HG:=Lh ((HY4.out.dead s.dd).grow (((HDR4.out.offp (q:=⟨y,3,none⟩) (HXN.out.off (Nat.lt_succ_self y)) (.int .i64 s.dd)).offp (q:=⟨y,4,none⟩) (HXN.out.off (Nat.lt_succ_self y)) (.slice none 0 0)).more (by simp)) ⟨HXN.out.low (by have:=HY4.out.ry;omega),HXN.out.off (Nat.lt_succ_self y)⟩)
  obtain ⟨k0,k1,k2,k3,k4,k5,k6,k7,k8,k9,k10⟩:=HY4.out.yb.k
  obtain ⟨f0,f1,f2,f3,f4,f5,f6,f7,f8,f9,f10⟩:=HY4.out.yb.free
  have kl:=HY4.out.yb.lt
  go_upto_region 6 with (fail)
  clear k0 k1 k2 k3 k4 k5 k6 k7 k8 k9 k10 f0 f1 f2 f3 f4 f5 f6 f7 f8 f9 f10 kl HY4 HDR4 HXN
  generalize (w6.setCell ⟨y,3,none⟩ (.int .i64 s.dd)).setCell ⟨y,4,none⟩ (.slice none 0 0)=w7 at*
  obtain ⟨k0,k1,k2,k3,k4,k5,k6,k7⟩:=HG.out.sb.k
  have kl:=HG.out.sb.lt
  have hsl:=HNN.out.1
  rw [hsl] at k0
  clear hsl
  go_wp2_with fail
  clear k0 k1 k2 k3 k4 k5 k6 k7 kl
  go_loopw [36] (fun iv wr=>∃ (i:Nat) (A:Option Addr) (c1:Nat) (q:List Sl) (A2:Option Addr) (c2:Nat),iv=.int .i64 i/\i<=n/\Hid (Gw12 w p r y s s.dd i i A c1 q A2 c2 X wr)) (fun iv _=>n - (intOf iv).toNat)
  case atStart=>exact ⟨0,none,0,[],none,0,rfl,Nat.zero_le _,HG⟩
  case round=>
   clear HG
   obtain ⟨i,A,c1,q,A2,c2,rfl,hi,HG⟩:=hrel
   by_cases hlt:i<n
   ·have hlt' : (i:Int)<(n:Int):=by omega
    have hi6:i<6:=by have:=HNN.out.2;omega
    have HI6:=Lh hi6
    have hw1:IntKind.i64.wrap ((i:Int)+1)=(i:Int)+1:=IntWalk.i64_in _ (by omega)
    obtain ⟨FF,hFF⟩:∃ FF,FF=ffS (nwD s.sl s.lv) (i:Int) k:=⟨_,rfl⟩
    have HFS:=Lh (fun W (k0:Gw12 w p r y s s.dd i i A c1 q A2 c2 X W)=>fshard_any (nwD s.sl s.lv) X (i:Int) k W k0.dr HKK.out.2.1 HKK.out.2.2.1)
    rw [<-hFF] at HFS
    have HSO:=Lh (show ∀ D,Sl.so ⟨0,FF,D⟩=nwSl s i from fun D=>by unfold nwSl;rw [<-HKK.out.2.2.2,<-hFF];rfl)
    clear hFF hi hi6
    have HD:=Lh HG.out.drew
    obtain ⟨y0,y1,y2,y3,y4,y5,y6,y7,y8,y9,y10⟩:=HG.out.yk
    have yl:=HG.out.yl
    obtain ⟨k0,k1,k2,k3,k4,k5,k6,k7⟩:=HG.out.sb.k
    have kl:=HG.out.sb.lt
    have hcp:=HKK.out.1
    rw [hcp] at k2
    clear hcp
    go_upto_region 9 with (fail)
    go_cut [5] (fun s5 wx=>s5=.int .i64 i/\∃ (A:Option Addr) (c1:Nat) (q:List Sl),Hid (Gw12 w p r y s s.dd (i+1) i A c1 q A2 c2 X wx))
    case first=>
     go_region_law (first
      | (go_simp;go_at_call 23;(with_reducible refine (HFS.out _ HD.out).mono ?_);rintro e w4 ⟨D,rfl,hn,hr,hb⟩;have HTN:=Lh hn;have HD4:=Lh (HD.out.below hb);have HD5:=Lh (HD4.out.alloc (.cells (Sl.mk 0 FF D).l.toArray 74));have HTR:=Lh (hr.up ((Below.refl w4.heap.size w4).alloc (nLR _) (.cells (Sl.mk 0 FF D).l.toArray 74)));obtain ⟨z0,z1,z2,z3,z4,z5,z6,z7,z8,z9,z10⟩:=HD4.out.yk;have zl:=HD4.out.yl;clear hn hr hb)
      | (refine step_append_lies _ (by rfl) _ _ _ (by rfl) (y+1) 74 i0 _ 9 120 Tryz.underlying25 HI.out HZ.out.1 HZ.out.2.1 HZ.out.2.2 rfl (by omega) (.slice A i c1) i (qcs q) (by rfl) HD5.out.o1 ⟨w4.heap.size,0,none⟩ 1 1 (Sl.mk 0 FF D).l (by rfl) (by rfl) (World.news_of_block (cs:=(Sl.mk 0 FF D).l.toArray) (t:=74) (fr:=(0,0)) (heap_alloc_new w4 _)) (Sl.l_one _) (by omega) (by have:=HI6.out;unfold maxLen;omega) (by have:=HI6.out;omega) (Nat.succ_le_of_lt HD5.out.yl) _ rfl ?_;intro g1 cp1 w8 hown1 hgrow1 hat1 hlt1;have HP8:=Lh (HD.out.slot (T:=Sl.mk 0 FF D) HD5.out (HSO.out D) HTR.out HTN.out hown1 hgrow1 hat1);obtain ⟨v1,v2,v3⟩:=HD5.out.near1 hgrow1;clear hown1 hgrow1 hat1 hlt1))
     all_goals
      have HQ:=Lh HP8.out
      clear HP8 HG HD HD4 HD5 HTN HTR HFS HSO
      go_wp2_with fail
      go_meet
      exact ⟨rfl,_,_,_,HQ⟩
    case rest=>
     obtain ⟨rfl,A,c1,q,HQ⟩:=hcut
     clear y0 y1 y2 y3 y4 y5 y6 y7 y8 y9 y10 yl k0 k1 k2 k3 k4 k5 k6 k7 kl HG HD HFS HSO
     generalize wc=w9 at*
     obtain ⟨y0,y1,y2,y3,y4,y5,y6,y7,y8,y9,y10⟩:=HQ.out.yk
     have yl:=HQ.out.yl
     obtain ⟨k0,k1,k2,k3,k4,k5,k6,k7⟩:=HQ.out.sb.k
     have kl:=HQ.out.sb.lt
     go_wp2_with (at_builtin;refine wpList_append_lies _ rfl _ _ _ rfl (y+1) 63 i1 _ 4 32 Tryz.underlying26 HI1.out HZ1.out.1 HZ1.out.2.1 HZ1.out.2.2 rfl (by omega) (.slice A2 i c2) i (tcs (List.replicate i (stE s))) (by rfl) (HQ.out.alloc _).o2 ⟨w9.heap.size,0,none⟩ 1 1 (stE s).l (by rfl) (by rfl) (World.news_of_block (cs:=(stE s).l.toArray) (t:=63) (fr:=(0,0)) (heap_alloc_new w9 _)) (St.l_one _) (by omega) (by have:=HI6.out;unfold maxLen;omega) (by have:=HI6.out;omega) (Nat.succ_le_of_lt (HQ.out.alloc _).yl) _ rfl ?_;intro g2 cp2 w10 hown2 hgrow2 hat2 hlt2;have HR:=Lh ((HQ.out.alloc _).stripe hown2 hgrow2 hat2);obtain ⟨u1,u2,u3⟩:=(HQ.out.alloc _).near2 hgrow2;clear hown2 hgrow2 hat2 hlt2)
     go_roundw
     case rel=>exact ⟨i+1,_,_,_,_,_,by go_num,by omega,HR⟩
     case measure=>simp [intOf];omega
   ·obtain rfl:i=n:=by omega
    clear hi hlt
    have HAR:=Lh HG.out.ar
    have HAN:=Lh HG.out.anw
    obtain ⟨y0,y1,y2,y3,y4,y5,y6,y7,y8,y9,y10⟩:=HG.out.yk
    have yl:=HG.out.yl
    obtain ⟨k0,k1,k2,k3,k4,k5,k6,k7,k8,k9,k10⟩:=HG.out.rb.k
    obtain ⟨f0,f1,f2,f3,f4,f5,f6,f7,f8,f9,f10⟩:=HG.out.rb.free
    have kl:=HG.out.rb.lt
    have hyr:¬y=r:=by have:=HG.out.ne;omega
    have hry:¬r=y:=fun e=>hyr e.symm
    have HF:=Lh (show AE w (nwA s) (nwAE s) (.returned (.tuple #[.agg #[.slice A i c1,.slice A2 i c2,.int .i64 0,.int .i64 s.dd,.slice none 0 0,.int .i64 (nwD s.sl s.lv).vn,.slice X.A (nwD s.sl s.lv).l.length X.c,.slice X.A2 (nwD s.sl s.lv).F.length X.c2,.int .i64 s.ep,.int .i64 s.ck,.int .i64 s.ni],.int .i64 0])) (((((((((((wr.setCell ⟨r,0,none⟩ (.slice A i c1)).setCell ⟨r,1,none⟩ (.slice A2 i c2)).setCell ⟨r,2,none⟩ (.int .i64 0)).setCell ⟨r,3,none⟩ (.int .i64 s.dd)).setCell ⟨r,4,none⟩ (.slice none 0 0)).setCell ⟨r,5,none⟩ (.int .i64 (nwD s.sl s.lv).vn)).setCell ⟨r,6,none⟩ (.slice X.A (nwD s.sl s.lv).l.length X.c)).setCell ⟨r,7,none⟩ (.slice X.A2 (nwD s.sl s.lv).F.length X.c2)).setCell ⟨r,8,none⟩ (.int .i64 s.ep)).setCell ⟨r,9,none⟩ (.int .i64 s.ck)).setCell ⟨r,10,none⟩ (.int .i64 s.ni)) from by
     rw [HA2.out,HE2.out]
     have:=HG.out.ne
     have h:=ae_out (show w.heap.size<=r by omega) HG.out.bel HAN.out (by omega) HAR.out 0
     simp only [av,set11,grA_sl,grA_st] at h
     exact h)
    clear HAR HAN HA2 HE2 HG
    go_wp2
    exact bodyPost_ret (v:=.tuple #[.agg #[.slice A i c1,.slice A2 i c2,.int .i64 0,.int .i64 s.dd,.slice none 0 0,.int .i64 (nwD s.sl s.lv).vn,.slice X.A (nwD s.sl s.lv).l.length X.c,.slice X.A2 (nwD s.sl s.lv).F.length X.c2,.int .i64 s.ep,.int .i64 s.ck,.int .i64 s.ni],.int .i64 0]) (by simp only [results,Tryz.results6];go_simp <;> rfl) rfl HF.out
theorem ffS_len {d:Dd} {j:Int} {k:Nat} (h1:1<=k) (h2:k<=12):(ffS d j k).cs.length<=1000/\(ffS d j k).l.length<=1000/\(ffS d j k).h.length<=1000:=by
 have hn:(nwC (k:Int)).length=k:=by rw [(nwC_fil h1 h2 0 (by omega)).1,fil_len]
 unfold ffS
 split
 ·unfold neS
  split
  ·exact ⟨by show (nwC (k:Int)).length<=1000;omega,Nat.zero_le _,Nat.zero_le _⟩
  ·exact ⟨Nat.zero_le _,Nat.zero_le _,Nat.zero_le _⟩
 ·exact ⟨by show (nwC (k:Int)).length<=1000;omega,Nat.zero_le _,Nat.zero_le _⟩
theorem few_nw {s:Su} (hs:suB s=true):(nwA s).Few:=by
 have hok:=suB_iff.1 hs
 unfold Su.Ok at hok
 have e:nwA s=grA s s.sl.toNat s.sl.toNat s.dd:=if_pos hs
 rw [e]
 obtain ⟨n,hn⟩:∃ n:Nat,s.sl=n:=⟨s.sl.toNat,by omega⟩
 obtain ⟨m,hm⟩:∃ m:Nat,s.lv=m:=⟨s.lv.toNat,by omega⟩
 have hd:nwD s.sl s.lv=⟨1,nwL m m,List.replicate n (-1)⟩:=by rw [hn,hm];exact nwD_ok (by omega) (by omega) (by omega)
 refine ⟨by rw [grA_sl];omega,by rw [grA_st];omega,Nat.zero_le _,?_,fun t ht=>?_⟩
 ·show (nwD s.sl s.lv).l.length<=1000/\(nwD s.sl s.lv).F.length<=1000
  rw [hd]
  exact ⟨by show (nwL m m).length<=1000;rw [nwL_len];omega,by show (List.replicate n (-1:Int)).length<=1000;rw [List.length_replicate];omega⟩
 ·have ht2:t∈(List.range s.sl.toNat).map (nwSl s):=ht
  obtain ⟨i,-,rfl⟩:=List.mem_map.1 ht2
  exact ffS_len (by omega) (by omega)
theorem Ar.Few.own {a:Ar} (h:a.Few) (k:Nat) (v:Int):(a.setOwn k v).Few:=by
 unfold Ar.setOwn
 split
 ·exact ⟨h.sl,h.st,h.dl,h.dr,h.sh⟩
 ·refine ⟨by simpa using h.sl,h.st,h.dl,h.dr,fun s hs=>?_⟩
  rcases List.mem_or_eq_of_mem_set hs with h1 | rfl
  ·exact h.sh s h1
  ·by_cases hk:k<a.sl.length
   ·have h1:=h.sh a.sl[k] (List.getElem_mem hk);rw [og_get hk];exact h1
   ·have e:og a.sl k=⟨0,zS⟩:=by simp [og,List.getD,List.getElem?_eq_none (Nat.not_lt.1 hk)]
    rw [e]
    exact ⟨Nat.zero_le 1000,Nat.zero_le 1000,Nat.zero_le 1000⟩
structure Aw12 (w:World) (p:Nat) (a:Ar) (Y:Ax) (W:World):Prop where
 qb:QB W p a Y
 ar:AR W W.heap.size a Y
 bel:Below w.heap.size w W
 old:w.heap.size<=p
section
variable {w W W' : World} {p:Nat} {a a' : Ar} {Y Z:Ax}
theorem Aw12.below (h:Aw12 w p a Y W) (hb:Below W.heap.size W W'):Aw12 w p a Y W':=⟨h.qb.up hb,h.ar.up hb,h.bel.trans (hb.mono h.bel.size),h.old⟩
theorem Aw12.start (hb:Below w.heap.size w W) (h:AR W W.heap.size a Y):Aw12 w W.heap.size a Y (W.alloc (.cells #[.slice Y.A a.sl.length Y.c,.slice Y.A2 a.st.length Y.c2,.int .i64 a.ow,.int .i64 a.cap,.slice Y.A3 a.dl.length Y.c3,.int .i64 a.dir.vn,.slice Y.D.A a.dir.l.length Y.D.c,.slice Y.D.A2 a.dir.F.length Y.D.c2,.int .i64 a.ep,.int .i64 a.ck,.int .i64 a.ni] 36)):=
 ⟨QB.start W a Y _,h.alloc _,hb.alloc hb.size _,hb.size⟩
end
theorem anumber_any (n:Int) (w:World):Calls Tryz.prog 149 #[.int .i64 n] w fun e w'=>e=.returned (.bool (wi n 0 1099511627776))/\w=w':=by
 have HW:=Lh (fun W=>awithin_any n 0 1099511627776 W)
 go_enter Tryz.func149,Tryz.ntmps149
 go_wp2_with fail
 refine (HW.out _).mono ?_
 rintro e w1 ⟨rfl,rfl⟩
 go_wp2
 go_ret
 exact ⟨rfl,rfl⟩
def islB (a:Ar) (n:Int):Bool:=wi n 0 (min (a.sl.length:Int) (a.st.length:Int) - 1)
theorem aisslot_any (a:Ar) (Y:Ax) (n:Int) (w:World) (hf:a.Few):Calls Tryz.prog 113 #[av a Y,.int .i64 n] w fun e w'=>e=.returned (.bool (islB a n))/\Below w.heap.size w w':=by
 have HB:=Lh (QB.start w a Y 36)
 have HW:=Lh ((Below.refl w.heap.size w).alloc (nLR _) (.cells #[.slice Y.A a.sl.length Y.c,.slice Y.A2 a.st.length Y.c2,.int .i64 a.ow,.int .i64 a.cap,.slice Y.A3 a.dl.length Y.c3,.int .i64 a.dir.vn,.slice Y.D.A a.dir.l.length Y.D.c,.slice Y.D.A2 a.dir.F.length Y.D.c2,.int .i64 a.ep,.int .i64 a.ck,.int .i64 a.ni] 36))
 have hw:IntKind.i64.wrap (min (a.sl.length:Int) (a.st.length:Int) - 1)=min (a.sl.length:Int) (a.st.length:Int) - 1:=IntWalk.i64_in _ (by have:=hf.sl;have:=hf.st;omega)
 have HI:=Lh (fun W=>show Calls Tryz.prog 39 #[.int .i64 n,.int .i64 0,.int .i64 (min (a.sl.length:Int) (a.st.length:Int) - 1)] W fun e w'=>e=.returned (.bool (islB a n))/\W=w' from awithin_any n 0 _ W)
 go_enter Tryz.func113,Tryz.ntmps113
 obtain ⟨y0,y1,-⟩:=HB.out.k
 have yl:=HB.out.lt
 go_wp2_with fail
 refine (HI.out _).mono ?_
 rintro e w1 ⟨rfl,rfl⟩
 go_wp2
 go_ret
 exact ⟨rfl,HW.out⟩
def ownQ (p b o n k:Nat):Addr:=if k=n then ⟨p,2,none⟩ else ⟨b,o+k*9,none⟩
theorem aownerof2_any (a:Ar) (Y:Ax) (p b o k:Nat) (w:World) (hq:QB w p a Y) (hA:Y.A=some ⟨b,o,none⟩) (hc:a.sl.length<=Y.c) (hk:k<=a.sl.length) (h1:a.sl.length<=1000) :
  Calls Tryz.prog 156 #[.pointer (some ⟨p,0,none⟩),.int .i64 (k:Int)] w fun e w'=>e=.returned (.pointer (some (ownQ p b o a.sl.length k)))/\Below w.heap.size w w':=by
 have HQ:=Lh hq
 have HD:=Lh (fun W=>adeadcell_any a Y W)
 have HA:=Lh hA
 by_cases hkn:k=a.sl.length
 ·have HP:=Lh (show ownQ p b o a.sl.length k=⟨p,2,none⟩ from if_pos hkn)
  have hk1:((k:Int)==(a.sl.length:Int))=true:=by simpa using (show (k:Int)=(a.sl.length:Int) by omega)
  clear hq hA hkn hk h1 hc
  go_enter Tryz.func156,Tryz.ntmps156
  obtain ⟨y0,y1,y2,y3,y4,y5,y6,y7,y8,y9,y10⟩:=HQ.out.k
  have yl:=HQ.out.lt
  go_wp2_with fail
  refine (HD.out _).mono ?_
  rintro e w2 ⟨rfl,hb⟩
  have HB:=Lh hb
  clear hb y0 y1 y2 y3 y4 y5 y6 y7 y8 y9 y10
  go_wp2
  go_ret
  exact ⟨by rw [HP.out];rfl,HB.out⟩
 ·have HP:=Lh (show ownQ p b o a.sl.length k=⟨b,o+k*9,none⟩ from if_neg hkn)
  have hk1:((k:Int)==(a.sl.length:Int))=false:=by simpa using (show ¬(k:Int)=(a.sl.length:Int) by omega)
  have hlt:k<a.sl.length:=by omega
  have hlt' : (k:Int)<(a.sl.length:Int):=by omega
  clear hq hkn hk hA
  go_enter Tryz.func156,Tryz.ntmps156
  obtain ⟨y0,y1,y2,y3,y4,y5,y6,y7,y8,y9,y10⟩:=HQ.out.k
  have yl:=HQ.out.lt
  go_wp2_with fail
  refine (HD.out _).mono ?_
  rintro e w2 ⟨rfl,hb⟩
  have HB:=Lh hb
  clear y0 y1 y2 y3 y4 y5 y6 y7 y8 y9 y10 yl
  obtain ⟨y0,-⟩:=(HQ.out.up hb).k
  have yl:=(HQ.out.up hb).lt
  rw [HA.out] at y0
  clear hb
  go_wp2
  go_ret
  exact ⟨by rw [HP.out];rfl,HB.out⟩
theorem Aw12.at_ {w W:World} {p:Nat} {a:Ar} {Y:Ax} (h:Aw12 w p a Y W) {k:Nat} (hk:k<=a.sl.length) (h0:0<a.sl.length):∃ b o,Y.A=some ⟨b,o,none⟩/\∀ W',Below W.heap.size W W'->W'.cell? (ownQ p b o a.sl.length k)=some (.int .i64 (a.own k)):=by
 obtain ⟨D0,b,o,hA,hb,-,-,-⟩:=h.ar.at2 h0
 refine ⟨b,o,hA,fun W' hW=>?_⟩
 unfold ownQ Ar.own
 by_cases e:k=a.sl.length
 ·rw [if_pos e,if_pos e]
  exact (hW.cell (p:=⟨p,2,none⟩) h.qb.lt).trans h.qb.k.2.2.1
 ·rw [if_neg e,if_neg e]
  obtain ⟨D,b',o',hA',hb',h9,-,-⟩:=h.ar.at2 (k:=k) (by omega)
  rw [hA] at hA'
  injection hA' with hA'
  injection hA' with e1 e2 e3
  subst e1 e2
  exact (hW.cell (p:=⟨b,o+k*9,none⟩) hb).trans h9.1
def owE (a:Ar) (k t:Int):Int:=if lkE a.sl.length k t=0 then (if a.own k.toNat=t then 0 else 13) else lkE a.sl.length k t
theorem lk_nat {n:Nat} {k t:Int} (h:lkE n k t=0):k=(k.toNat:Int)/\k.toNat<=n:=by
 unfold lkE at h
 by_cases hw:wi k 0 (n:Int)=true
 ·have:=wi_of hw;omega
 ·rw [if_neg hw] at h;exact absurd h (by decide)
theorem aownererr_any (a:Ar) (Y:Ax) (k t:Int) (w:World) (har:AR w w.heap.size a Y) (hf:a.Few):Calls Tryz.prog 135 #[av a Y,.int .i64 k,.int .i64 t] w fun e w'=>e=.returned (.int .i64 (owE a k t))/\Below w.heap.size w w':=by
 have H0:=Lh (Aw12.start (Below.refl w.heap.size w) har)
 have HLK:=Lh (fun W=>alockerr_any a Y k t W)
 have HFW:=Lh hf
 obtain ⟨L,hL⟩:∃ L,L=lkE a.sl.length k t:=⟨_,rfl⟩
 obtain ⟨OE,hOE⟩:∃ L,L=owE a k t:=⟨_,rfl⟩
 have HOE:=Lh (show OE=if L=0 then (if a.own k.toNat=t then 0 else 13) else L from by rw [hOE,hL];rfl)
 have HLL:=Lh hL
 rw [<-hL] at HLK
 rw [<-hOE]
 obtain ⟨p,hp⟩:∃ p,p=w.heap.size:=⟨_,rfl⟩
 have HPP:=Lh hp
 clear har hf hL hOE hp
 go_enter Tryz.func135,Tryz.ntmps135
 go_upto_region 1 with (fail)
 have H0:=Lh (show Aw12 w p a Y (w.alloc (.cells #[.slice Y.A a.sl.length Y.c,.slice Y.A2 a.st.length Y.c2,.int .i64 a.ow,.int .i64 a.cap,.slice Y.A3 a.dl.length Y.c3,.int .i64 a.dir.vn,.slice Y.D.A a.dir.l.length Y.D.c,.slice Y.D.A2 a.dir.F.length Y.D.c2,.int .i64 a.ep,.int .i64 a.ck,.int .i64 a.ni] 36)) from by rw [HPP.out];exact H0.out)
 rw [<-HPP.out]
 generalize w.alloc (.cells #[.slice Y.A a.sl.length Y.c,.slice Y.A2 a.st.length Y.c2,.int .i64 a.ow,.int .i64 a.cap,.slice Y.A3 a.dl.length Y.c3,.int .i64 a.dir.vn,.slice Y.D.A a.dir.l.length Y.D.c,.slice Y.D.A2 a.dir.F.length Y.D.c2,.int .i64 a.ep,.int .i64 a.ck,.int .i64 a.ni] 36)=w1 at*
 obtain ⟨y0,y1,y2,y3,y4,y5,y6,y7,y8,y9,y10⟩:=H0.out.qb.k
 have yl:=H0.out.qb.lt
 go_wp2_with fail
 clear y0 y1 y2 y3 y4 y5 y6 y7 y8 y9 y10 yl
 refine (HLK.out _).mono ?_
 rintro e w2 ⟨rfl,hb⟩
 have H1:=Lh (H0.out.below hb)
 clear hb H0 HLK
 by_cases hL0:L=0
 ·have HN:=Lh (lk_nat (HLL.out.symm.trans hL0))
  have HO2:=Lh (HOE.out.trans (if_pos hL0))
  obtain ⟨n,hn⟩:∃ n:Nat,n=k.toNat:=⟨_,rfl⟩
  rw [<-hn] at HN HO2
  obtain ⟨b,o,hA,hcell⟩:=H1.out.at_ HN.out.2 HFW.out.sl.1
  have HCE:=Lh hcell
  have HOW:=Lh (aownerof2_any a Y p b o n w2 H1.out.qb hA (by have:=H1.out.ar.ql.len;omega) HN.out.2 HFW.out.sl.2)
  have hkn:=HN.out.1
  rw [<-hkn] at HOW
  obtain ⟨P,hP⟩:∃ P,P=ownQ p b o a.sl.length n:=⟨_,rfl⟩
  rw [<-hP] at HOW HCE
  obtain ⟨x,hx⟩:∃ x,x=a.own n:=⟨_,rfl⟩
  rw [<-hx] at HCE HO2
  clear hkn hA hcell hn hP hx HN HLL HOE
  subst hL0
  go_wp2_with fail
  refine HOW.out.mono ?_
  rintro e w3 ⟨rfl,hb⟩
  have hc:=HCE.out _ hb
  have H2:=Lh (H1.out.below hb)
  clear hb HOW HCE H1
  by_cases hxt:x=t
  ·have HO3:=Lh (HO2.out.trans (if_pos hxt))
   have hne:(x != t)=false:=by simpa using hxt
   clear HO2 hxt
   go_wp2
   go_ret
   exact ⟨by rw [HO3.out];rfl,H2.out.bel⟩
  ·have HO3:=Lh (HO2.out.trans (if_neg hxt))
   have hne:(x != t)=true:=bne_iff_ne.2 hxt
   clear HO2 hxt
   go_wp2
   go_ret
   exact ⟨by rw [HO3.out];rfl,H2.out.bel⟩
 ·have HO2:=Lh (HOE.out.trans (if_neg hL0))
  have hne:(L != 0)=true:=bne_iff_ne.2 hL0
  clear HOE HLL hL0
  go_wp2
  go_ret
  exact ⟨by rw [HO2.out];rfl,H1.out.bel⟩
def slE (a:Ar) (k t:Int):Int:=if islB a k=true then owE a k t else 1
theorem asloterr_any (a:Ar) (Y:Ax) (k t:Int) (w:World) (har:AR w w.heap.size a Y) (hf:a.Few):Calls Tryz.prog 138 #[av a Y,.int .i64 k,.int .i64 t] w fun e w'=>e=.returned (.int .i64 (slE a k t))/\Below w.heap.size w w':=by
 have H0:=Lh (Aw12.start (Below.refl w.heap.size w) har)
 have HIS:=Lh (fun W=>aisslot_any a Y k W hf)
 have HOW:=Lh (fun W (h:AR W W.heap.size a Y)=>aownererr_any a Y k t W h hf)
 obtain ⟨b,hb0⟩:∃ b,b=islB a k:=⟨_,rfl⟩
 obtain ⟨OE,hOE⟩:∃ L,L=owE a k t:=⟨_,rfl⟩
 obtain ⟨SL,hSL⟩:∃ L,L=slE a k t:=⟨_,rfl⟩
 have HSL:=Lh (show SL=if b=true then OE else 1 from by rw [hSL,hb0,hOE];rfl)
 rw [<-hb0] at HIS
 rw [<-hOE] at HOW
 rw [<-hSL]
 obtain ⟨p,hp⟩:∃ p,p=w.heap.size:=⟨_,rfl⟩
 have HPP:=Lh hp
 clear har hf hb0 hOE hSL hp
 go_enter Tryz.func138,Tryz.ntmps138
 go_upto_region 1 with (fail)
 have H0:=Lh (show Aw12 w p a Y (w.alloc (.cells #[.slice Y.A a.sl.length Y.c,.slice Y.A2 a.st.length Y.c2,.int .i64 a.ow,.int .i64 a.cap,.slice Y.A3 a.dl.length Y.c3,.int .i64 a.dir.vn,.slice Y.D.A a.dir.l.length Y.D.c,.slice Y.D.A2 a.dir.F.length Y.D.c2,.int .i64 a.ep,.int .i64 a.ck,.int .i64 a.ni] 36)) from by rw [HPP.out];exact H0.out)
 rw [<-HPP.out]
 generalize w.alloc (.cells #[.slice Y.A a.sl.length Y.c,.slice Y.A2 a.st.length Y.c2,.int .i64 a.ow,.int .i64 a.cap,.slice Y.A3 a.dl.length Y.c3,.int .i64 a.dir.vn,.slice Y.D.A a.dir.l.length Y.D.c,.slice Y.D.A2 a.dir.F.length Y.D.c2,.int .i64 a.ep,.int .i64 a.ck,.int .i64 a.ni] 36)=w1 at*
 obtain ⟨y0,y1,y2,y3,y4,y5,y6,y7,y8,y9,y10⟩:=H0.out.qb.k
 have yl:=H0.out.qb.lt
 go_wp2_with fail
 clear y0 y1 y2 y3 y4 y5 y6 y7 y8 y9 y10 yl
 refine (HIS.out _).mono ?_
 rintro e w2 ⟨rfl,hb⟩
 have H1:=Lh (H0.out.below hb)
 clear hb H0 HIS
 cases b with
 | true=>
  have HS2:=Lh (HSL.out.trans (if_pos rfl))
  clear HSL
  obtain ⟨y0,y1,y2,y3,y4,y5,y6,y7,y8,y9,y10⟩:=H1.out.qb.k
  have yl:=H1.out.qb.lt
  go_wp2_with fail
  clear y0 y1 y2 y3 y4 y5 y6 y7 y8 y9 y10 yl
  refine (HOW.out _ H1.out.ar).mono ?_
  rintro e w3 ⟨rfl,hb⟩
  have H2:=Lh (H1.out.below hb)
  clear hb H1
  go_wp2
  go_ret
  exact ⟨by rw [HS2.out];rfl,H2.out.bel⟩
 | false=>
  have HS2:=Lh (HSL.out.trans (if_neg (by decide)))
  clear HSL
  go_wp2
  go_ret
  exact ⟨by rw [HS2.out];rfl,H1.out.bel⟩
def ulA (a:Ar) (k t:Int):Ar:=if owE a k t=0 then a.setOwn k.toNat 0 else zA
theorem ow_nat {a:Ar} {k t:Int} (h:owE a k t=0):k=(k.toNat:Int)/\k.toNat<=a.sl.length:=by
 unfold owE at h
 by_cases hl:lkE a.sl.length k t=0
 ·exact lk_nat hl
 ·rw [if_neg hl] at h;exact absurd h hl
theorem aunlock_any (a:Ar) (Y:Ax) (k t:Int) (w:World) (har:AR w w.heap.size a Y) (hf:a.Few):Calls Tryz.prog 152 #[av a Y,.int .i64 k,.int .i64 t] w (AE w (ulA a k t) (owE a k t)):=by
 obtain ⟨p,hp⟩:∃ p,p=w.heap.size:=⟨_,rfl⟩
 obtain ⟨r,hr⟩:∃ r,r=w.heap.size+1:=⟨_,rfl⟩
 have H0:=Lh (show Ci12 w p r a Y _ from by rw [hr,hp];exact Ci12.start har)
 have HPP:=Lh (And.intro hp hr)
 have HLK:=Lh (fun W (k' : Ci12 w p r a Y W)=>aownererr_any a Y k t W (k'.ar.more k'.bel.size) hf)
 have HCL:=Lh (fun W (k:Ci12 w p r a Y W)=>aclone_any a Y W (k.ar.more k.bel.size) hf)
 have HFW:=Lh hf
 obtain ⟨E,hE⟩:∃ E,E=owE a k t:=⟨_,rfl⟩
 rw [<-hE] at HLK ⊢
 obtain ⟨TA,hTA⟩:∃ A,A=ulA a k t:=⟨_,rfl⟩
 have HTA:=Lh (show TA=if E=0 then a.setOwn k.toNat 0 else zA from by rw [hTA,hE];rfl)
 rw [<-hTA]
 have HEE:=Lh hE
 clear hp hr har hf hTA hE
 go_enter Tryz.func152,Tryz.ntmps152
 go_upto_region 1 with (fail)
 rw [<-HPP.out.2,<-HPP.out.1]
 generalize (w.alloc (.cells #[.slice Y.A a.sl.length Y.c,.slice Y.A2 a.st.length Y.c2,.int .i64 a.ow,.int .i64 a.cap,.slice Y.A3 a.dl.length Y.c3,.int .i64 a.dir.vn,.slice Y.D.A a.dir.l.length Y.D.c,.slice Y.D.A2 a.dir.F.length Y.D.c2,.int .i64 a.ep,.int .i64 a.ck,.int .i64 a.ni] 36)).alloc (.cells #[.slice none 0 0,.slice none 0 0,.int .i64 0,.int .i64 0,.slice none 0 0,.int .i64 0,.slice none 0 0,.slice none 0 0,.int .i64 0,.int .i64 0,.int .i64 0] 36)=w1 at*
 obtain ⟨y0,y1,y2,y3,y4,y5,y6,y7,y8,y9,y10⟩:=H0.out.pb.k
 have yl:=H0.out.pb.lt
 go_wp2_with fail
 clear y0 y1 y2 y3 y4 y5 y6 y7 y8 y9 y10 yl
 refine (HLK.out _ H0.out).mono ?_
 rintro e w2 ⟨rfl,hb⟩
 have H1:=Lh (H0.out.below hb)
 clear hb H0 HLK
 by_cases hE0:E=0
 ·have HA2:=Lh (HTA.out.trans (if_pos hE0))
  obtain ⟨n,hn⟩:∃ n:Nat,n=k.toNat:=⟨_,rfl⟩
  have HN:=Lh (show k=(n:Int)/\n<=a.sl.length from by rw [hn];exact ow_nat (HEE.out.symm.trans hE0))
  rw [<-hn] at HA2
  clear HTA HEE hn
  subst hE0
  obtain ⟨y0,y1,y2,y3,y4,y5,y6,y7,y8,y9,y10⟩:=H1.out.pb.k
  have yl:=H1.out.pb.lt
  go_wp2_with fail
  clear y0 y1 y2 y3 y4 y5 y6 y7 y8 y9 y10 yl
  refine (HCL.out _ H1.out).mono ?_
  rintro e w3 ⟨Z,b,rfl,hnw,har,hb,ea,ec,hrow,o1,o2,o3,o4⟩
  have HC:=Lh (show Cb12 w p r b a Z (((((((((((w3.setCell ⟨p,0,none⟩ (.slice Z.A a.sl.length Z.c)).setCell ⟨p,1,none⟩ (.slice Z.A2 a.st.length Z.c2)).setCell ⟨p,2,none⟩ (.int .i64 a.ow)).setCell ⟨p,3,none⟩ (.int .i64 a.cap)).setCell ⟨p,4,none⟩ (.slice Z.A3 a.dl.length Z.c3)).setCell ⟨p,5,none⟩ (.int .i64 a.dir.vn)).setCell ⟨p,6,none⟩ (.slice Z.D.A a.dir.l.length Z.D.c)).setCell ⟨p,7,none⟩ (.slice Z.D.A2 a.dir.F.length Z.D.c2)).setCell ⟨p,8,none⟩ (.int .i64 a.ep)).setCell ⟨p,9,none⟩ (.int .i64 a.ck)).setCell ⟨p,10,none⟩ (.int .i64 a.ni)) from H1.out.copied hb hnw har ea ec hrow o1 o2 o3 o4)
  have HNW:=Lh (hnw.low (show r+1<=_ from H1.out.rb.lt))
  have H2:=Lh (H1.out.below hb)
  clear hnw har hb ea ec hrow o1 o2 o3 o4 H1 HCL
  obtain ⟨y0,y1,y2,y3,y4,y5,y6,y7,y8,y9,y10⟩:=H2.out.pb.k
  have yl:=H2.out.pb.lt
  obtain ⟨f0,f1,f2,f3,f4,f5,f6,f7,f8,f9,f10⟩:=H2.out.pb.free
  go_upto_region 5 with (fail)
  clear y0 y1 y2 y3 y4 y5 y6 y7 y8 y9 y10 yl f0 f1 f2 f3 f4 f5 f6 f7 f8 f9 f10 H2
  generalize ((((((((((w3.setCell ⟨p,0,none⟩ (.slice Z.A a.sl.length Z.c)).setCell ⟨p,1,none⟩ (.slice Z.A2 a.st.length Z.c2)).setCell ⟨p,2,none⟩ (.int .i64 a.ow)).setCell ⟨p,3,none⟩ (.int .i64 a.cap)).setCell ⟨p,4,none⟩ (.slice Z.A3 a.dl.length Z.c3)).setCell ⟨p,5,none⟩ (.int .i64 a.dir.vn)).setCell ⟨p,6,none⟩ (.slice Z.D.A a.dir.l.length Z.D.c)).setCell ⟨p,7,none⟩ (.slice Z.D.A2 a.dir.F.length Z.D.c2)).setCell ⟨p,8,none⟩ (.int .i64 a.ep)).setCell ⟨p,9,none⟩ (.int .i64 a.ck)).setCell ⟨p,10,none⟩ (.int .i64 a.ni)=w4 at*
  have hkn:=HN.out.1
  have HOW:=Lh (aownerof_any a Z p b n w4 HC.out.pb HC.out.ea HC.out.ec.1 HN.out.2 HFW.out.sl.2)
  rw [<-hkn] at HOW
  clear hkn
  go_wp2_with fail
  refine HOW.out.mono ?_
  rintro e w5 ⟨rfl,hb⟩
  have HC2:=Lh (HC.out.below hb)
  obtain ⟨c1,c2,c3⟩:=HC2.out.at_ HN.out.2
  obtain ⟨Y',hcb,hny⟩:=HC2.out.own HN.out.2 0
  rw [<-HA2.out] at hcb
  have HCB:=Lh hcb
  have HNY:=Lh (hny _ HNW.out)
  obtain ⟨P,hP⟩:∃ P,P=ownP p b a.sl.length n:=⟨_,rfl⟩
  rw [<-hP] at HCB c1 c2 c3 ⊢
  generalize a.own n=x at*
  clear hb hP HOW HC HC2 HNW HA2 hcb hny
  go_upto_region 6 with (fail)
  clear c1 c2 c3
  generalize w5.setCell P (.int .i64 0)=w6 at*
  have HF:=Lh (ae_out (show w.heap.size<=r by have:=HCB.out.ne;omega) HCB.out.bel HNY.out (nLR r) HCB.out.ar 0)
  obtain ⟨y0,y1,y2,y3,y4,y5,y6,y7,y8,y9,y10⟩:=HCB.out.pb.k
  have yl:=HCB.out.pb.lt
  obtain ⟨r0,r1,r2,r3,r4,r5,r6,r7,r8,r9,r10⟩:=HCB.out.rb.k
  have rl:=HCB.out.rb.lt
  obtain ⟨f0,f1,f2,f3,f4,f5,f6,f7,f8,f9,f10⟩:=HCB.out.rb.free
  have hpr:¬p=r:=by have:=HCB.out.ne;omega
  have hrp:¬r=p:=fun e=>hpr e.symm
  clear HCB HNY
  go_wp2
  exact bodyPost_ret (v:=.tuple #[av TA Y',.int .i64 0]) (by simp only [results,Tryz.results152];go_simp <;> rfl) rfl HF.out
 ·have hne:(E != 0)=true:=bne_iff_ne.2 hE0
  have HA2:=Lh (HTA.out.trans (if_neg hE0))
  have HF:=Lh (show AE w TA E (.returned (.tuple #[.agg #[.slice none 0 0,.slice none 0 0,.int .i64 0,.int .i64 0,.slice none 0 0,.int .i64 0,.slice none 0 0,.slice none 0 0,.int .i64 0,.int .i64 0,.int .i64 0],.int .i64 E])) (set11 w2 r zA zAx) from by
   rw [HA2.out]
   exact ae_out (show w.heap.size<=r by have:=H1.out.ne;omega) H1.out.bel (zAx_nw _) (nLR r) AR.zero E)
  obtain ⟨r0,r1,r2,r3,r4,r5,r6,r7,r8,r9,r10⟩:=H1.out.rb.k
  have rl:=H1.out.rb.lt
  obtain ⟨f0,f1,f2,f3,f4,f5,f6,f7,f8,f9,f10⟩:=H1.out.rb.free
  clear HTA HEE HA2 H1 HCL hE0
  go_wp2
  exact bodyPost_ret (v:=.tuple #[.agg #[.slice none 0 0,.slice none 0 0,.int .i64 0,.int .i64 0,.slice none 0 0,.int .i64 0,.slice none 0 0,.slice none 0 0,.int .i64 0,.int .i64 0,.int .i64 0],.int .i64 E]) (by simp only [results,Tryz.results152];go_simp <;> rfl) rfl HF.out
end Go.Proofs.YtkecnihgjepfeaaGreat
