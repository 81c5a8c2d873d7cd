/- What is proved here: parts of the proof: Rts Ssm7 Qs Qat Qlk1 Qlk2. -/
import Derived.Test.YtkecnihgjepfeaaGreatJ29
import Derived.Laws.LoneSync
namespace Go.Proofs.YtkecnihgjepfeaaGreat
open Go.RowKit
set_option linter.unusedVariables false
set_option linter.unusedSimpArgs false
set_option maxHeartbeats 8000000
set_option maxRecDepth 20000
theorem rsamel_yes (A A' : Option Addr) (n n' c c' : Nat) (l:List Le) (w:World) (B B' : Nat) (hv:El w B (.slice A n c) l) (hv' : El w B' (.slice A' n' c') l) :
  Calls Tryz.prog 66 #[.slice A n c,.slice A' n' c'] w fun e w'=>e=.returned (.bool true)/\Below w.heap.size w w':=by
 obtain ⟨rfl,hm1,hm2⟩:=hv.len
 obtain ⟨rfl,hm1',hm2'⟩:=hv'.len
 have hL:l.length<=9223372036854775807:=by unfold maxLen at hm2;omega
 have HV:=Lh hv
 have HV':=Lh hv'
 have HB:=Lh (Below.refl w.heap.size w)
 clear hv hm1 hm2 hv' hm1' hm2'
 go_enter Tryz.func66,Tryz.ntmps66
 go_wp2
 go_loopw [5] (fun i wr=>∃ k:Nat,k<=l.length/\i=.int .i64 k/\El wr B (.slice A l.length c) l/\El wr B' (.slice A' l.length c') l/\Below w.heap.size w wr) (fun i _=>l.length - (intOf i).toNat)
 case atStart=>exact ⟨0,by omega,rfl,HV.out,HV'.out,HB.out⟩
 case round=>
  obtain ⟨k,hk,rfl,hv,hv',hb⟩:=hrel
  have HV:=Lh hv
  have HV':=Lh hv'
  have HB:=Lh hb
  clear hv hv' hb
  by_cases hlt:k<l.length
  ·obtain ⟨b,o,rfl,_⟩:=HV.out.some_ (by omega)
   obtain ⟨b',o',rfl,_⟩:=HV'.out.some_ (by omega)
   obtain ⟨⟨c0,c1,c2,c3,c4,c5,c6,c7⟩,hb⟩:=HV.out.c8 hlt
   obtain ⟨⟨d0,d1,d2,d3,d4,d5,d6,d7⟩,hb'⟩:=HV'.out.c8 hlt
   generalize l[k]=M at*
   have hne:=neql M
   go_wp2
   go_quiet (fail)
   go_wp2
   go_roundw
   case rel=>exact ⟨k+1,by omega,by go_num,HV.out.drewN _,HV'.out.drewN _,bel_drewN HB.out _⟩
   case measure=>simp [intOf];omega
  ·go_wp2
   go_ret
   exact ⟨rfl,HB.out⟩
theorem rtsame_yes (A A' : Option Addr) (n n' c c' : Nat) (l:List Le) (A2 A2' : Option Addr) (n2 n2' c2 c2' : Nat) (h:List Du) (w:World)
  (hv:El w w.heap.size (.slice A n c) l) (hv' : El w w.heap.size (.slice A' n' c') l) (hd:Dl w w.heap.size (.slice A2 n2 c2) h) (hd' : Dl w w.heap.size (.slice A2' n2' c2') h) :
  Calls Tryz.prog 35 #[tv A n c A2 n2 c2,tv A' n' c' A2' n2' c2'] w fun e w'=>e=.returned (.bool true)/\Below w.heap.size w w':=by
 have HB:=Lh (((Below.refl w.heap.size w).alloc (nLR _) (.cells #[.slice A n c,.slice A2 n2 c2] 70)).alloc (by simp) (.cells #[.slice A' n' c',.slice A2' n2' c2'] 70))
 have HE:=Lh (fun W (hb:Below w.heap.size w W)=>rsamel_yes A A' n n' c c' l W _ _ (hv.below hb) (hv'.below hb))
 have HD:=Lh (fun W (hb:Below w.heap.size w W)=>rsame5_yes A2 A2' n2 n2' c2 c2' h W _ _ (hd.below hb) (hd'.below hb))
 have HT:=Lh ((TB.start w A n c A2 n2 c2 70).below ((Below.refl (w.heap.size+1) _).alloc (by simp) (.cells #[.slice A' n' c',.slice A2' n2' c2'] 70)) (Nat.lt_succ_self _))
 have HT':=Lh (TB.start (w.alloc (.cells #[.slice A n c,.slice A2 n2 c2] 70)) A' n' c' A2' n2' c2' 70)
 rw [show (w.alloc (.cells #[.slice A n c,.slice A2 n2 c2] 70)).heap.size=w.heap.size+1 by simp] at HT'
 clear hv hv' hd hd'
 go_enter Tryz.func35,Tryz.ntmps35
 go_wp2_with fail
 obtain ⟨p,hp⟩:∃ p,p=w.heap.size:=⟨_,rfl⟩
 obtain ⟨q,hq⟩:∃ q,q=w.heap.size+1:=⟨_,rfl⟩
 rw [<-hq] at HT'
 rw [<-hp] at HT
 rw [<-hq,<-hp]
 clear hq hp
 generalize (w.alloc (.cells #[.slice A n c,.slice A2 n2 c2] 70)).alloc (.cells #[.slice A' n' c',.slice A2' n2' c2'] 70)=w2 at*
 refine (HE.out _ HB.out).mono ?_
 rintro e w3 ⟨rfl,hb⟩
 obtain ⟨t0,t1,tl⟩:=HT.out.below hb HT.out.2.2
 obtain ⟨s0,s1,sl⟩:=HT'.out.below hb HT'.out.2.2
 have HB3:=Lh (HB.out.trans (hb.mono HB.out.size))
 clear hb
 go_wp2_with fail
 refine (HD.out _ HB3.out).mono ?_
 rintro e w4 ⟨rfl,hb⟩
 have HB4:=Lh (HB3.out.trans (hb.mono HB3.out.size))
 clear hb
 go_wp2
 go_ret
 exact ⟨rfl,HB4.out⟩
structure TwAt7 (w:World) (p q:Nat) (S:Sh) (D E:Sx) (W:World):Prop where
 a:SAt w p S D W
 b:SAt w q S E W
theorem TwAt7.below {w W W' : World} {p q:Nat} {S:Sh} {D E:Sx} (h:TwAt7 w p q S D E W) (hb:Below W.heap.size W W'):TwAt7 w p q S D E W':=⟨h.a.below hb,h.b.below hb⟩
theorem SAt.from7 {w w1:World} {p:Nat} {S:Sh} {D:Sx} {W:World} (h:SAt w1 p S D W) (hw:Below w.heap.size w w1):SAt w p S D W:=⟨h.s8,h.sr,h.off,hw.trans (h.bel.mono hw.size),Nat.le_trans hw.size h.old⟩
theorem TwAt7.start (w:World) (S:Sh) (D E:Sx) (hs:SR w w.heap.size S D) (ht:SR w w.heap.size S E):TwAt7 w w.heap.size (w.heap.size+1) S D E ((w.alloc (.cells #[.bool S.lv,.int .i64 S.lo,.int .i64 S.hi,.slice D.A S.cs.length D.c,.int .i64 S.hd,.int .i64 S.sz,.slice D.A2 S.l.length D.c2,.slice D.A3 S.h.length D.c3] 72)).alloc (.cells #[.bool S.lv,.int .i64 S.lo,.int .i64 S.hi,.slice E.A S.cs.length E.c,.int .i64 S.hd,.int .i64 S.sz,.slice E.A2 S.l.length E.c2,.slice E.A3 S.h.length E.c3] 72)):=by
 have hb:=(Below.refl w.heap.size w).alloc (nLR _) (.cells #[.bool S.lv,.int .i64 S.lo,.int .i64 S.hi,.slice D.A S.cs.length D.c,.int .i64 S.hd,.int .i64 S.sz,.slice D.A2 S.l.length D.c2,.slice D.A3 S.h.length D.c3] 72)
 have h1:=SAt.from7 (SAt.start 72 (ht.up hb)) hb
 rw [show (w.alloc (.cells #[.bool S.lv,.int .i64 S.lo,.int .i64 S.hi,.slice D.A S.cs.length D.c,.int .i64 S.hd,.int .i64 S.sz,.slice D.A2 S.l.length D.c2,.slice D.A3 S.h.length D.c3] 72)).heap.size=w.heap.size+1 by simp] at h1
 exact ⟨(SAt.start 72 hs).alloc _,h1⟩
theorem rsame7_yes (S:Sh) (D E:Sx) (w:World) (hs:SR w w.heap.size S D) (ht:SR w w.heap.size S E) :
  Calls Tryz.prog 15 #[sv S D,sv S E] w fun e w'=>e=.returned (.bool true)/\Below w.heap.size w w':=by
 have H0:=Lh (TwAt7.start w S D E hs ht)
 have HG:=Lh (fun p q W (h:TwAt7 w p q S D E W)=>gsame_yes D.A E.A S.cs.length S.cs.length D.c E.c S.hd S.sz S.cs W W.heap.size W.heap.size (nLR _) (nLR _) h.a.sr.ls h.b.sr.ls)
 have HT:=Lh (fun p q W (h:TwAt7 w p q S D E W)=>rtsame_yes D.A2 E.A2 S.l.length S.l.length D.c2 E.c2 S.l D.A3 E.A3 S.h.length S.h.length D.c3 E.c3 S.h W h.a.sr.el h.b.sr.el h.a.sr.dl h.b.sr.dl)
 clear hs ht
 go_enter Tryz.func15,Tryz.ntmps15
 go_wp2_with fail
 obtain ⟨p,hp⟩:∃ p,p=w.heap.size:=⟨_,rfl⟩
 obtain ⟨q,hq⟩:∃ q,q=w.heap.size+1:=⟨_,rfl⟩
 rw [<-hq,<-hp] at H0
 rw [<-hq,<-hp]
 clear hq hp
 generalize (w.alloc (.cells #[.bool S.lv,.int .i64 S.lo,.int .i64 S.hi,.slice D.A S.cs.length D.c,.int .i64 S.hd,.int .i64 S.sz,.slice D.A2 S.l.length D.c2,.slice D.A3 S.h.length D.c3] 72)).alloc (.cells #[.bool S.lv,.int .i64 S.lo,.int .i64 S.hi,.slice E.A S.cs.length E.c,.int .i64 S.hd,.int .i64 S.sz,.slice E.A2 S.l.length E.c2,.slice E.A3 S.h.length E.c3] 72)=w2 at*
 refine (HG.out _ _ _ H0.out).mono ?_
 rintro e w3 ⟨rfl,hb⟩
 have H1:=Lh (H0.out.below hb)
 clear hb
 obtain ⟨t0,t1,t2,t3,t4,t5,t6,t7,tl⟩:=H1.out.a.s8.facts
 obtain ⟨y0,y1,y2,y3,y4,y5,y6,y7,yl⟩:=H1.out.b.s8.facts
 go_wp2_with fail
 clear t0 t1 t2 t3 t4 t5 t6 t7 tl y0 y1 y2 y3 y4 y5 y6 y7 yl
 refine (HT.out _ _ _ H1.out).mono ?_
 rintro e w4 ⟨rfl,hb⟩
 have HB:=Lh (H1.out.below hb).a.bel
 clear hb
 go_wp2
 go_ret
 exact ⟨rfl,HB.out⟩
def og (l:List So) (k:Nat):So:=l.getD k ⟨0,zS⟩
theorem og_get {l:List So} {k:Nat} (h:k<l.length):og l k=l[k]:=by simp [og,List.getD,h]
theorem AR.at2 {W:World} {B:Nat} {a:Ar} {Y:Ax} {k:Nat} (h:AR W B a Y) (hk:k<a.sl.length):∃ (D:Sx) (b o:Nat),Y.A=some ⟨b,o,none⟩/\b<B/\Q9 W b (o+k*9) ⟨(og a.sl k).ow,(og a.sl k).sh,D⟩/\SR W B (og a.sl k).sh D/\Y.q[k]? = some ⟨(og a.sl k).ow,(og a.sl k).sh,D⟩:=by
 obtain ⟨s,b,o,hq,hs,hA,hb,h9,hr⟩:=h.atg hk
 rw [og_get hk]
 obtain ⟨e1,e2⟩:=sl_so hs
 cases s with
 | mk x y z=>
  simp only at e1 e2
  subst e1 e2
  exact ⟨z,b,o,hA,hb,h9,hr,hq⟩
structure Ts12 (w:World) (p q:Nat) (a:Ar) (Y Z:Ax) (W:World):Prop where
 pb:QB W p a Y
 qb:QB W q a Z
 pr:AR W W.heap.size a Y
 qr:AR W W.heap.size a Z
 bel:Below w.heap.size w W
section
variable {w W W' : World} {p q:Nat} {a:Ar} {Y Z:Ax}
end
structure Tv12 (w:World) (p q:Nat) (a:Ar) (Y Z:Ax) (x y b o b' o' : Nat) (s s' : Sl) (W:World):Prop where
 ts:Ts12 w p q a Y Z W
 ea:Y.A=some ⟨b,o,none⟩
 ez:Z.A=some ⟨b',o',none⟩
 ys:Q9 W b x s
 zs:Q9 W b' y s'
 bl:b<W.heap.size
 bl' : b' < W.heap.size
 sr:SR W W.heap.size s.sh s.sx
 sr' : SR W W.heap.size s'.sh s'.sx
abbrev C20 (p q:Nat) (n c n' c' x y b o b' o' : Nat) (s s' : Sl) (W:World):Prop:=(W.cell? ⟨p,0,none⟩=some (.slice (some ⟨b,o,none⟩) n c)/\W.cell? ⟨q,0,none⟩=some (.slice (some ⟨b',o',none⟩) n' c'))/\Q9 W b x s/\Q9 W b' y s'
section
variable {w W W' : World} {p q x y b o b' o' : Nat} {a:Ar} {Y Z:Ax} {s s' : Sl}
end
theorem atstore_any (b:Nat) (x y:Int) (w:World) (hc:w.cell? ⟨b,0,none⟩=some (.int .i64 x)) (hz:w.frozen? ⟨b,0,none⟩=false) :
  Calls Tryz.prog 185 #[.pointer (some ⟨b,0,none⟩),.int .i64 y] w fun e w'=>e=.returned (.tuple #[])/\w' = w.setCell ⟨b,0,none⟩ (.int .i64 y):=by
 have hst:=run_call_store (P:=Tryz.prog) Tryz.func200 (by kernel_rfl) (by kernel_rfl) (by kernel_rfl) (by kernel_rfl) (k:=.i64) (y:=y) hc hz
 go_enter Tryz.func185,Tryz.ntmps185
 go_wp2
 first
  | go_end0
  | refine bodyPost_ret (results_none rfl _ _ _) rfl ?_
 all_goals exact ⟨rfl,rfl⟩
theorem atload_any (b:Nat) (x:Int) (w:World) (hc:w.cell? ⟨b,0,none⟩=some (.int .i64 x)) :
  Calls Tryz.prog 187 #[.pointer (some ⟨b,0,none⟩)] w fun e w'=>e=.returned (.int .i64 x)/\w' = w:=by
 have hst:=run_call_load (P:=Tryz.prog) Tryz.func202 (by kernel_rfl) (by kernel_rfl) (by kernel_rfl) .i64 (by kernel_rfl) hc
 go_enter Tryz.func187,Tryz.ntmps187
 go_wp2
 go_ret
 exact ⟨rfl,rfl⟩
theorem atcas_any (b:Nat) (x o y:Int) (w:World) (hc:w.cell? ⟨b,0,none⟩=some (.int .i64 x)) (hz:w.frozen? ⟨b,0,none⟩=false) :
  Calls Tryz.prog 186 #[.pointer (some ⟨b,0,none⟩),.int .i64 o,.int .i64 y] w fun e w'=>e=.returned (.bool (decide (x=o)))/\w' = if x=o then w.setCell ⟨b,0,none⟩ (.int .i64 y) else w:=by
 by_cases h:x=o
 ·subst h
  have hst:=run_call_cas_hit (P:=Tryz.prog) Tryz.func201 (by kernel_rfl) (by kernel_rfl) (by kernel_rfl) .i64 (by kernel_rfl) (y:=y) hc hz
  rw [if_pos rfl,decide_eq_true rfl]
  go_enter Tryz.func186,Tryz.ntmps186
  go_wp2
  go_ret
  exact ⟨rfl,rfl⟩
 ·have hst:=run_call_cas_miss (P:=Tryz.prog) Tryz.func201 (by kernel_rfl) (by kernel_rfl) (by kernel_rfl) .i64 (by kernel_rfl) (o:=o) (y:=y) hc hz h
  rw [if_neg h,decide_eq_false h]
  clear h
  go_enter Tryz.func186,Tryz.ntmps186
  go_wp2
  go_ret
  exact ⟨rfl,rfl⟩
def SwP (w:World) (p:Addr) (x o y:Int) (e:Ending) (w' : World):Prop:=e=.returned (.bool (decide (x=o)))/\∃ w1,Below w.heap.size w w1/\w' = w1.setCell p (.int .i64 (if x=o then y else x))
theorem swap_any (p:Addr) (x o y:Int) (w:World) (hc:w.cell? p=some (.int .i64 x)) (hz:w.frozen? p=false) (hp:p.block<w.heap.size) :
  Calls Tryz.prog 167 #[.pointer (some p),.int .i64 o,.int .i64 y] w (SwP w p x o y):=by
 have HC:=Lh (And.intro hc (And.intro hz hp))
 have HB0:=Lh ((Below.refl w.heap.size w).alloc (nLR _) (.cells #[.int .i64 0] 245))
 have HQ0:=Lh (show (w.alloc (.cells #[.int .i64 0] 245)).cell? ⟨w.heap.size,0,none⟩=some (.int .i64 0)/\(w.alloc (.cells #[.int .i64 0] 245)).frozen? ⟨w.heap.size,0,none⟩=false from ⟨by simp [go_sem],by simp [go_sem]⟩)
 obtain ⟨q,hq⟩:∃ q,q=w.heap.size:=⟨_,rfl⟩
 have HQ:=Lh hq
 clear hc hz hp hq
 go_enter Tryz.func167,Tryz.ntmps167
 go_upto_region 2 with (fail)
 rw [<-HQ.out] at HQ0 ⊢
 generalize w.alloc (.cells #[.int .i64 0] 245)=w1 at*
 have hc1:=(HB0.out.cell HC.out.2.2).trans HC.out.1
 go_wp2_with fail
 clear hc1
 refine (atstore_any q 0 x _ HQ0.out.1 HQ0.out.2).mono ?_
 rintro e w2 ⟨rfl,hw⟩
 have HB2:=Lh (show Below w.heap.size w w2 from by rw [hw];exact HB0.out.setCell (p:=⟨q,0,none⟩) (show w.heap.size<=q from by rw [HQ.out];exact nLR _) _)
 have HQ2:=Lh (show w2.cell? ⟨q,0,none⟩=some (.int .i64 x)/\w2.frozen? ⟨q,0,none⟩=false from by
  rw [hw]
  exact ⟨World.cell?_setCell_same' _ _ _ (by rw [HQ0.out.1];rfl),by rw [World.frozen?_setCell];exact HQ0.out.2⟩)
 clear hw HB0 HQ0
 go_wp2_with fail
 refine (atcas_any q x o y _ HQ2.out.1 HQ2.out.2).mono ?_
 rintro e w3 ⟨rfl,hw⟩
 obtain ⟨v,hv⟩:∃ v,v=if x=o then y else x:=⟨_,rfl⟩
 have HV:=Lh hv
 have HB3:=Lh (show Below w.heap.size w w3 from by
  rw [hw]
  split
  ·exact HB2.out.setCell (p:=⟨q,0,none⟩) (show w.heap.size<=q from by rw [HQ.out];exact nLR _) _
  ·exact HB2.out)
 have HQ3:=Lh (show w3.cell? ⟨q,0,none⟩=some (.int .i64 v) from by
  rw [hw,hv]
  split
  ·exact World.cell?_setCell_same' _ _ _ (by rw [HQ2.out.1];rfl)
  ·exact HQ2.out.1)
 clear hw hv HB2 HQ2
 obtain ⟨d,hd⟩:∃ d,d=decide (x=o):=⟨_,rfl⟩
 rw [<-hd]
 have HDD:=Lh hd
 clear hd
 go_wp2_with fail
 refine (atload_any q v _ HQ3.out).mono ?_
 rintro e w4 ⟨rfl,hw⟩
 replace hw:=hw.symm
 subst hw
 have hc1:=(HB3.out.cell HC.out.2.2).trans HC.out.1
 have hz1:=(HB3.out.frozen HC.out.2.2).trans HC.out.2.1
 have HF:=Lh (show ∃ w1,Below w.heap.size w w1/\w3.setCell p (.int .i64 v)=w1.setCell p (.int .i64 (if x=o then y else x)) from ⟨w3,HB3.out,by rw [HV.out]⟩)
 clear HB3 HQ3 HV
 go_wp2
 go_ret
 exact ⟨by rw [<-HDD.out];rfl,HF.out⟩
def rgE (n lo hi:Int):Int:=if wi n lo hi=true then 0 else 1
theorem arange_any (n lo hi:Int) (w:World):Calls Tryz.prog 168 #[.int .i64 n,.int .i64 lo,.int .i64 hi] w fun e w'=>e=.returned (.int .i64 (rgE n lo hi))/\w=w':=by
 have HW:=Lh (fun W=>awithin_any n lo hi W)
 cases h:wi n lo hi with
 | true=>
  have HE:=Lh (show rgE n lo hi=0 from if_pos h)
  rw [h] at HW
  clear h
  go_enter Tryz.func168,Tryz.ntmps168
  go_wp2_with fail
  refine (HW.out _).mono ?_
  rintro e w1 ⟨rfl,rfl⟩
  go_wp2
  go_ret
  exact ⟨by rw [HE.out];rfl,rfl⟩
 | false=>
  have HE:=Lh (show rgE n lo hi=1 from if_neg (by rw [h];decide))
  rw [h] at HW
  clear h
  go_enter Tryz.func168,Tryz.ntmps168
  go_wp2_with fail
  refine (HW.out _).mono ?_
  rintro e w1 ⟨rfl,rfl⟩
  go_wp2
  go_ret
  exact ⟨by rw [HE.out];rfl,rfl⟩
theorem adeadcell_any (a:Ar) (Y:Ax) (w:World):Calls Tryz.prog 136 #[av a Y] w fun e w'=>e=.returned (.int .i64 (a.sl.length:Int))/\Below w.heap.size w w':=by
 have HB:=Lh (QB.start w a Y 36)
 have HW:=Lh ((Below.refl w.heap.size w).alloc (nLR _) (.cells #[.slice Y.A a.sl.length Y.c,.slice Y.A2 a.st.length Y.c2,.int .i64 a.ow,.int .i64 a.cap,.slice Y.A3 a.dl.length Y.c3,.int .i64 a.dir.vn,.slice Y.D.A a.dir.l.length Y.D.c,.slice Y.D.A2 a.dir.F.length Y.D.c2,.int .i64 a.ep,.int .i64 a.ck,.int .i64 a.ni] 36))
 go_enter Tryz.func136,Tryz.ntmps136
 obtain ⟨y0,-⟩:=HB.out.k
 have yl:=HB.out.lt
 go_wp2
 go_ret
 exact ⟨rfl,HW.out⟩
def lkE (n:Nat) (k t:Int):Int:=if wi k 0 n=true then rgE t 1 200 else 1
theorem alockerr_any (a:Ar) (Y:Ax) (k t:Int) (w:World):Calls Tryz.prog 155 #[av a Y,.int .i64 k,.int .i64 t] w fun e w'=>e=.returned (.int .i64 (lkE a.sl.length k t))/\Below w.heap.size w w':=by
 have HB:=Lh (QB.start w a Y 36)
 have HW:=Lh ((Below.refl w.heap.size w).alloc (nLR _) (.cells #[.slice Y.A a.sl.length Y.c,.slice Y.A2 a.st.length Y.c2,.int .i64 a.ow,.int .i64 a.cap,.slice Y.A3 a.dl.length Y.c3,.int .i64 a.dir.vn,.slice Y.D.A a.dir.l.length Y.D.c,.slice Y.D.A2 a.dir.F.length Y.D.c2,.int .i64 a.ep,.int .i64 a.ck,.int .i64 a.ni] 36))
 have HD:=Lh (fun W=>adeadcell_any a Y W)
 have HR1:=Lh (fun W=>arange_any k 0 (a.sl.length:Int) W)
 have HR2:=Lh (fun W=>arange_any t 1 200 W)
 obtain ⟨E2,hE2⟩:∃ E,E=rgE t 1 200:=⟨_,rfl⟩
 obtain ⟨LE,hLE⟩:∃ E,E=lkE a.sl.length k t:=⟨_,rfl⟩
 have HLE:=Lh (show LE=if wi k 0 a.sl.length=true then E2 else 1 from by rw [hLE,hE2];rfl)
 rw [<-hE2] at HR2
 rw [<-hLE]
 obtain ⟨p,hp⟩:∃ p,p=w.heap.size:=⟨_,rfl⟩
 have HPP:=Lh hp
 clear hE2 hLE hp
 cases h:wi k 0 (a.sl.length:Int) with
 | true=>
  have HL2:=Lh (HLE.out.trans (if_pos h))
  have HR1:=Lh (show ∀ W,Calls Tryz.prog 168 #[.int .i64 k,.int .i64 0,.int .i64 (a.sl.length:Int)] W fun e w'=>e=.returned (.int .i64 0)/\W=w' from fun W=>by
   have h1:=HR1.out W
   rwa [show rgE k 0 (a.sl.length:Int)=0 from if_pos h] at h1)
  clear h HLE
  go_enter Tryz.func155,Tryz.ntmps155
  obtain ⟨y0,y1,y2,y3,y4,y5,y6,y7,y8,y9,y10⟩:=HB.out.k
  have yl:=HB.out.lt
  go_wp2_with fail
  clear y0 y1 y2 y3 y4 y5 y6 y7 y8 y9 y10 yl
  refine (HD.out _).mono ?_
  rintro e w2 ⟨rfl,hb⟩
  have HW2:=Lh (HW.out.trans (hb.mono HW.out.size))
  clear hb
  go_wp2_with fail
  refine (HR1.out _).mono ?_
  rintro e w3 ⟨rfl,rfl⟩
  go_wp2_with fail
  refine (HR2.out _).mono ?_
  rintro e w4 ⟨rfl,rfl⟩
  go_wp2
  go_ret
  exact ⟨by rw [HL2.out];rfl,HW2.out⟩
 | false=>
  have HL2:=Lh (HLE.out.trans (if_neg (by rw [h];decide)))
  have HR1:=Lh (show ∀ W,Calls Tryz.prog 168 #[.int .i64 k,.int .i64 0,.int .i64 (a.sl.length:Int)] W fun e w'=>e=.returned (.int .i64 1)/\W=w' from fun W=>by
   have h1:=HR1.out W
   rwa [show rgE k 0 (a.sl.length:Int)=1 from if_neg (by rw [h];decide)] at h1)
  clear h HLE
  go_enter Tryz.func155,Tryz.ntmps155
  obtain ⟨y0,y1,y2,y3,y4,y5,y6,y7,y8,y9,y10⟩:=HB.out.k
  have yl:=HB.out.lt
  go_wp2_with fail
  clear y0 y1 y2 y3 y4 y5 y6 y7 y8 y9 y10 yl
  refine (HD.out _).mono ?_
  rintro e w2 ⟨rfl,hb⟩
  have HW2:=Lh (HW.out.trans (hb.mono HW.out.size))
  clear hb
  go_wp2_with fail
  refine (HR1.out _).mono ?_
  rintro e w3 ⟨rfl,rfl⟩
  go_wp2
  go_ret
  exact ⟨by rw [HL2.out];rfl,HW2.out⟩
def Ar.own (a:Ar) (k:Nat):Int:=if k=a.sl.length then a.ow else (og a.sl k).ow
def ownP (p b n k:Nat):Addr:=if k=n then ⟨p,2,none⟩ else ⟨b,k*9,none⟩
def Ar.setOwn (a:Ar) (k:Nat) (v:Int):Ar:=if k=a.sl.length then ⟨a.sl,a.st,v,a.cap,a.dl,a.dir,a.ep,a.ck,a.ni⟩ else ⟨a.sl.set k ⟨v,(og a.sl k).sh⟩,a.st,a.ow,a.cap,a.dl,a.dir,a.ep,a.ck,a.ni⟩
theorem aownerof_any (a:Ar) (Y:Ax) (p b k:Nat) (w:World) (hq:QB w p a Y) (hA:Y.A=some ⟨b,0,none⟩) (hc:a.sl.length<=Y.c) (hk:k<=a.sl.length) (h1:a.sl.length<=1000) :
  Calls Tryz.prog 156 #[.pointer (some ⟨p,0,none⟩),.int .i64 (k:Int)] w fun e w'=>e=.returned (.pointer (some (ownP p b a.sl.length k)))/\Below w.heap.size w w':=by
 have HQ:=Lh hq
 have HD:=Lh (fun W=>adeadcell_any a Y W)
 have HA:=Lh hA
 by_cases hkn:k=a.sl.length
 ·have HP:=Lh (show ownP p b a.sl.length k=⟨p,2,none⟩ from if_pos hkn)
  have hk1:((k:Int)==(a.sl.length:Int))=true:=by simpa using (show (k:Int)=(a.sl.length:Int) by omega)
  clear hq hA hkn hk h1 hc
  go_enter Tryz.func156,Tryz.ntmps156
  obtain ⟨y0,y1,y2,y3,y4,y5,y6,y7,y8,y9,y10⟩:=HQ.out.k
  have yl:=HQ.out.lt
  go_wp2_with fail
  refine (HD.out _).mono ?_
  rintro e w2 ⟨rfl,hb⟩
  have HB:=Lh hb
  clear hb y0 y1 y2 y3 y4 y5 y6 y7 y8 y9 y10
  go_wp2
  go_ret
  exact ⟨by rw [HP.out];rfl,HB.out⟩
 ·have HP:=Lh (show ownP p b a.sl.length k=⟨b,k*9,none⟩ from if_neg hkn)
  have hk1:((k:Int)==(a.sl.length:Int))=false:=by simpa using (show ¬(k:Int)=(a.sl.length:Int) by omega)
  have hlt:k<a.sl.length:=by omega
  have hlt' : (k:Int)<(a.sl.length:Int):=by omega
  clear hq hkn hk hA
  go_enter Tryz.func156,Tryz.ntmps156
  obtain ⟨y0,y1,y2,y3,y4,y5,y6,y7,y8,y9,y10⟩:=HQ.out.k
  have yl:=HQ.out.lt
  go_wp2_with fail
  refine (HD.out _).mono ?_
  rintro e w2 ⟨rfl,hb⟩
  have HB:=Lh hb
  clear y0 y1 y2 y3 y4 y5 y6 y7 y8 y9 y10 yl
  obtain ⟨y0,-⟩:=(HQ.out.up hb).k
  have yl:=(HQ.out.up hb).lt
  rw [HA.out] at y0
  clear hb
  go_wp2
  go_ret
  exact ⟨by rw [HP.out];simp,HB.out⟩
theorem qcs_setow (Q:List Sl) (i:Nat) (x v:Int) (S:Sh) (D:Sx) (h:Q[i]? = some ⟨x,S,D⟩):(qcs Q).set (i*9) (.int .i64 v)=qcs (Q.set i ⟨v,S,D⟩):=by
 induction Q generalizing i with
 | nil=>simp at h
 | cons s Q ih=>
  cases i with
  | zero=>
   simp only [List.getElem?_cons_zero,Option.some.injEq] at h
   subst h
   rfl
  | succ i=>
   simp only [List.getElem?_cons_succ] at h
   rw [qcs_cons,List.set_cons_succ,qcs_cons,<-ih i h,show (i+1)*9=9+i*9 by omega,sl_app_set]
section
variable {w W W' : World} {p r b:Nat} {a:Ar} {Y:Ax}
theorem Cb12.at_ (h:Cb12 w p r b a Y W) {k:Nat} (hk:k<=a.sl.length):W.cell? (ownP p b a.sl.length k)=some (.int .i64 (a.own k))/\W.frozen? (ownP p b a.sl.length k)=false/\(ownP p b a.sl.length k).block<W.heap.size:=by
 unfold ownP Ar.own
 by_cases e:k=a.sl.length
 ·rw [if_pos e,if_pos e]
  exact ⟨h.pb.k.2.2.1,h.pb.fr 2,h.pb.lt⟩
 ·rw [if_neg e,if_neg e]
  have hl:k<Y.q.length:=by rw [h.len];omega
  have h9:=h.ro.q9 (List.getElem?_eq_getElem hl)
  have e2:Y.q[k].ow=(og a.sl k).ow:=by
   rw [og_get (show k<a.sl.length by omega)]
   have:a.sl[k]'(by omega)=Y.q[k].so:=by simp [<-h.so]
   rw [this];rfl
  rw [<-e2]
  exact ⟨h9.1,h.ro.f _,h.ro.lt⟩
theorem Cb12.own (h:Cb12 w p r b a Y W) {k:Nat} (hk:k<=a.sl.length) (v:Int):∃ Y' : Ax,Cb12 w p r b (a.setOwn k v) Y' (W.setCell (ownP p b a.sl.length k) (.int .i64 v))/\∀ lo,Y.nw lo->Y'.nw lo:=by
 have hne:=h.ne
 unfold ownP Ar.setOwn
 by_cases e:k=a.sl.length
 ·rw [if_pos e,if_pos e]
  obtain ⟨k1,k2,k3,k4,k5,k6,k7⟩:=h.keep 2 (.int .i64 v)
  obtain ⟨⟨y0,y1,y2,y3,y4,y5,y6,y7,y8,y9,y10⟩,fr,lt⟩:=h.pb
  exact ⟨Y,⟨⟨⟨by simp [go_sem,y0],by simp [go_sem,y1],by simp [go_sem,y2],by simp [go_sem,y3],by simp [go_sem,y4],by simp [go_sem,y5],by simp [go_sem,y6],by simp [go_sem,y7],by simp [go_sem,y8],by simp [go_sem,y9],by simp [go_sem,y10]⟩,fun o=>by simp [go_sem,fr o],by simp [lt]⟩,k5,k6,h.ea,h.ec,h.so,fun t ht=>⟨k1 t ht,(h.sr t ht).2⟩,⟨k2,h.tl.2⟩,⟨k3,h.ls.2⟩,⟨k4,h.dr.2⟩,h.ne,k7⟩,fun _ hn=>hn⟩
 ·rw [if_neg e,if_neg e]
  have hl:k<Y.q.length:=by rw [h.len];omega
  obtain ⟨t,ht⟩:∃ t,Y.q[k]? = some t:=⟨_,List.getElem?_eq_getElem hl⟩
  have e2:t.sh=(og a.sl k).sh:=by
   rw [og_get (show k<a.sl.length by omega)]
   have h1:(Y.q.map Sl.so)[k]? = some t.so:=by rw [List.getElem?_map,ht];rfl
   rw [h.so] at h1
   obtain ⟨_,h2⟩:=List.getElem?_eq_some_iff.1 h1
   rw [h2];rfl
  obtain ⟨x,S,D⟩:=t
  simp only at e2
  rw [<-e2]
  have hm:=h.sr _ (List.mem_of_getElem? ht)
  have h2:=h.ro.set (j:=k*9) (by rw [qcs_len];omega) (.int .i64 v)
  rw [qcs_setow Y.q k x v S D ht] at h2
  have hpb:=h.pb.other (x:=⟨b,k*9,none⟩) (show b≠p by omega) (.int .i64 v)
  have hmem:∀ s∈Y.q.set k ⟨v,S,D⟩,s∈Y.q\/s=⟨v,S,D⟩:=fun s hs=>by
   rcases List.mem_or_eq_of_mem_set hs with h1 | h1
   ·exact .inl h1
   ·exact .inr h1
  refine ⟨⟨Y.A,Y.c,Y.q.set k ⟨v,S,D⟩,Y.A2,Y.c2,Y.A3,Y.c3,Y.D⟩,⟨⟨?_,hpb.fr,hpb.lt⟩,h.rb.other (x:=⟨b,k*9,none⟩) (show b≠r by omega) _,h2,h.ea,by simpa using h.ec,?_,fun s hs=>?_,⟨(h.tl.1.offb (p:=⟨b,k*9,none⟩) h.tl.2.1 _).more (by simp),h.tl.2⟩,⟨(h.ls.1.offp (p:=⟨b,k*9,none⟩) h.ls.2.1 _).more (by simp),h.ls.2⟩,⟨(h.dr.1.offp (q:=⟨b,k*9,none⟩) h.dr.2.1 _).more (by simp),h.dr.2⟩,h.ne,h.bel.setCell (p:=⟨b,k*9,none⟩) (show w.heap.size<=b by omega) _⟩,fun lo hn=>⟨hn.n1,fun s hs=>?_,hn.n2,hn.n3,hn.n4⟩⟩
  ·obtain ⟨y0,y1,y2,y3,y4,y5,y6,y7,y8,y9,y10⟩:=hpb.k
   exact ⟨by simpa using y0,y1,y2,y3,y4,y5,y6,y7,y8,y9,y10⟩
  ·show (Y.q.set k ⟨v,S,D⟩).map Sl.so=a.sl.set k ⟨v,S⟩
   rw [List.map_set,h.so]
   rfl
  ·rcases hmem s hs with h1 | rfl
   ·exact ⟨((h.sr s h1).1.offp (p:=⟨b,k*9,none⟩) (h.sr s h1).2.1 _).more (by simp),(h.sr s h1).2⟩
   ·exact ⟨(hm.1.offp (p:=⟨b,k*9,none⟩) hm.2.1 _).more (by simp),hm.2⟩
  ·rcases hmem s hs with h1 | rfl
   ·exact hn.ns s h1
   ·exact (show D.nw lo from hn.ns ⟨x,S,D⟩ (List.mem_of_getElem? ht))
theorem QB.far11 {q:Nat} {a' : Ar} {Y' : Ax} (h:QB W q a Y) (hq:p≠q):QB (set11 W p a' Y') q a Y:=
 ((((((((((h.other (x:=⟨p,0,none⟩) hq _).other (x:=⟨p,1,none⟩) hq _).other (x:=⟨p,2,none⟩) hq _).other (x:=⟨p,3,none⟩) hq _).other (x:=⟨p,4,none⟩) hq _).other (x:=⟨p,5,none⟩) hq _).other (x:=⟨p,6,none⟩) hq _).other (x:=⟨p,7,none⟩) hq _).other (x:=⟨p,8,none⟩) hq _).other (x:=⟨p,9,none⟩) hq _).other (x:=⟨p,10,none⟩) hq _
theorem Ci12.copied (h:Ci12 w p r a Y W) {Z:Ax} (hb:Below W.heap.size W W') (hn:Z.nw W.heap.size) (har:AR W' W'.heap.size a Z) (ea:Z.A=some ⟨b,0,none⟩) (ec:a.sl.length<=Z.c/\Z.c<=maxLen) (hr:Rb W' b (qcs Z.q)) (o1:∀ t∈Z.q,SOff t.sh t.sx b) (o2:OffB b a.st.length Z.A2) (o3:OffB b a.dl.length Z.A3) (o4:DOff a.dir Z.D b):Cb12 w p r b a Z (set11 W' p a Z):=by
 have h':=h.below hb
 have hne:=h.ne
 have hpl:=h.pb.lt
 have hrl:=h.rb.lt
 have hbl:W.heap.size<=b:=hn.n1 _ ea
 have hp:=hn.off (a:=a) hpl
 have hrr:=hn.off (a:=a) hrl
 have h11:=(har.set11 hp a Z).more (B':=(set11 W' p a Z).heap.size) (by rw [set11_size];exact nLR _)
 exact ⟨h'.pb.set a Z,h'.rb.far11 (by omega),hr.set11 (by omega) a Z,ea,ec,har.so,fun t ht=>⟨h11.sr t ht,o1 t ht,hp.os t ht,hrr.os t ht⟩,⟨h11.tl,o2,hp.o2,hrr.o2⟩,⟨h11.ls,o3,hp.o3,hrr.o3⟩,⟨h11.dr,o4,hp.o4,hrr.o4⟩,⟨hne.1,hne.2,by omega⟩,set11_below h'.bel hne.1 a Z⟩
end
end Go.Proofs.YtkecnihgjepfeaaGreat
