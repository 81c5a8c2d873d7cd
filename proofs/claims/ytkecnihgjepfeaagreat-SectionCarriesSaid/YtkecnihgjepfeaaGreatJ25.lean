/- What is proved here: parts of the proof: Drs Agd Qfs Qsu Qi Yb. -/
import Derived.Test.YtkecnihgjepfeaaGreatJ24
namespace Go.Proofs.YtkecnihgjepfeaaGreat
open Go.RowKit
set_option linter.unusedVariables false
set_option linter.unusedSimpArgs false
set_option maxHeartbeats 8000000
set_option maxRecDepth 20000
structure TwD (w:World) (p q:Nat) (d:Dd) (X Y:Dx) (W:World):Prop where
 a:Db10 W p d X
 b:Db10 W q d Y
 ra:DR W W.heap.size d X
 rb:DR W W.heap.size d Y
 bel:Below w.heap.size w W
section
variable {w W W' : World} {p q:Nat} {d:Dd} {X Y:Dx}
end
def SpB10 (W:World) (r:Nat) (s:Sp):Prop:=(W.cell? ⟨r,0,none⟩=some (.int .i64 s.lo)/\W.cell? ⟨r,1,none⟩=some (.int .i64 s.hi)/\W.cell? ⟨r,2,none⟩=some (.int .i64 s.sh))/\r<W.heap.size
theorem SpB10.start (w:World) (s:Sp) (t:TypeId):SpB10 (w.alloc (.cells #[.int .i64 s.lo,.int .i64 s.hi,.int .i64 s.sh] t)) w.heap.size s:=
 ⟨⟨by simp [go_sem],by simp [go_sem],by simp [go_sem]⟩,by simp⟩
structure Dh10 (W:World) (p:Nat) (d:Dd) (X:Dx):Prop where
 db:Db10 W p d X
 dr:DR W W.heap.size d X
structure Ah10 (w:World) (p q:Nat) (d:Dd) (X:Dx) (e:Ed) (W:World):Prop where
 da:DAt w p d X W
 eb:EB W q e
section
variable {w W W' : World} {p q:Nat} {d:Dd} {X:Dx} {e:Ed}
end
structure Ai10 (w:World) (p q r1 r2 r3 r4:Nat) (d:Dd) (X:Dx) (e:Ed) (D:Dd) (Y Z:Dx) (S:Sp) (W:World):Prop where
 ah:Ah10 w p q d X e W
 a:Dh10 W r1 D Y
 b:Dh10 W r2 D Z
 s:SpB10 W r3 S
 t:SpB10 W r4 S
abbrev C10 (p r1 r2 r3 r4:Nat) (d:Dd) (X:Dx) (D:Dd) (Y Z:Dx) (S:Sp) (W:World):Prop:=
 (W.cell? ⟨p,0,none⟩=some (.int .i64 d.vn)/\W.cell? ⟨p,1,none⟩=some (.slice X.A d.l.length X.c)/\W.cell? ⟨p,2,none⟩=some (.slice X.A2 d.F.length X.c2))/\
 (W.cell? ⟨r1,0,none⟩=some (.int .i64 D.vn)/\W.cell? ⟨r1,1,none⟩=some (.slice Y.A D.l.length Y.c)/\W.cell? ⟨r1,2,none⟩=some (.slice Y.A2 D.F.length Y.c2))/\
 (W.cell? ⟨r2,0,none⟩=some (.int .i64 D.vn)/\W.cell? ⟨r2,1,none⟩=some (.slice Z.A D.l.length Z.c)/\W.cell? ⟨r2,2,none⟩=some (.slice Z.A2 D.F.length Z.c2))/\
 (W.cell? ⟨r3,0,none⟩=some (.int .i64 S.lo)/\W.cell? ⟨r3,1,none⟩=some (.int .i64 S.hi)/\W.cell? ⟨r3,2,none⟩=some (.int .i64 S.sh))/\
 (W.cell? ⟨r4,0,none⟩=some (.int .i64 S.lo)/\W.cell? ⟨r4,1,none⟩=some (.int .i64 S.hi)/\W.cell? ⟨r4,2,none⟩=some (.int .i64 S.sh))
section
variable {w W W' : World} {p q r1 r2 r3 r4:Nat} {d D:Dd} {X Y Z:Dx} {e:Ed} {S:Sp}
end
noncomputable def ffS (d:Dd) (j:Int) (k:Nat):Sh:=if spnB d j=true then neS (k:Int) (spnD d j).lo (spnD d j).hi else frS k
structure Fs12 (w:World) (p r:Nat) (d:Dd) (X:Dx) (W:World):Prop where
 da:DAt w p d X W
 rb:SB8 W r zS zX
 rn:w.heap.size<=r
section
variable {w W W' : World} {p r:Nat} {d:Dd} {X:Dx}
theorem Fs12.below (h:Fs12 w p r d X W) (hb:Below W.heap.size W W'):Fs12 w p r d X W':=⟨h.da.below hb,h.rb.up hb,h.rn⟩
theorem Fs12.start (hd:DR w w.heap.size d X):Fs12 w w.heap.size (w.heap.size+1) d X ((w.alloc (.cells #[.int .i64 d.vn,.slice X.A d.l.length X.c,.slice X.A2 d.F.length X.c2] 34)).alloc (.cells #[.bool false,.int .i64 0,.int .i64 0,.slice none 0 0,.int .i64 0,.int .i64 0,.slice none 0 0,.slice none 0 0] 72)):=by
 have h1:=SB8.zero (w.alloc (.cells #[.int .i64 d.vn,.slice X.A d.l.length X.c,.slice X.A2 d.F.length X.c2] 34)) 72
 rw [show (w.alloc (.cells #[.int .i64 d.vn,.slice X.A d.l.length X.c,.slice X.A2 d.F.length X.c2] 34)).heap.size=w.heap.size+1 by simp] at h1
 exact ⟨(DAt.start _ hd).below ((Below.refl _ _).alloc (nLR _) _),h1,by omega⟩
theorem sv_out {w W:World} {r:Nat} {S:Sh} {D:Sx} (hr:w.heap.size<=r) (hb:Below w.heap.size w W) (hn:D.nw (r+1)) (hs:SR W W.heap.size S D):SV w S (.returned (sv S D)) (set8s W r S D):=
 ⟨D,rfl,hn.low (by omega),SR.sets (hn.off (Nat.lt_succ_self r)) (S.l8 D) 0 W hs,set8s_below hr hb S D⟩
end
theorem fshard_any (d:Dd) (X:Dx) (j:Int) (k:Nat) (w:World) (hd:DR w w.heap.size d X) (h1:1<=k) (h2:k<=12) :
  Calls Tryz.prog 23 #[dv d X,.int .i64 j,.int .i64 (k:Int)] w (SV w (ffS d j k)):=by
 have H0:=Lh (Fs12.start hd)
 have HSP:=Lh (fun p r W (k:Fs12 w p r d X W)=>dspan_any d X j W k.da.dr)
 have HFR:=Lh (fun W=>sfree_any k W h1 h2)
 obtain ⟨FF,hFF⟩:∃ FF,FF=ffS d j k:=⟨_,rfl⟩
 have HFF:=Lh (show FF=if spnB d j=true then neS (k:Int) (spnD d j).lo (spnD d j).hi else frS k from hFF)
 obtain ⟨S,hS⟩:∃ S,S=spnD d j:=⟨_,rfl⟩
 obtain ⟨b,hb0⟩:∃ b,b=spnB d j:=⟨_,rfl⟩
 have HNE:=Lh (fun W=>snew_any (k:Int) S.lo S.hi W)
 rw [<-hS,<-hb0] at HFF
 rw [<-hFF]
 rw [<-hS,<-hb0] at HSP
 obtain ⟨p,hp⟩:∃ p,p=w.heap.size:=⟨_,rfl⟩
 obtain ⟨r,hr⟩:∃ r,r=w.heap.size+1:=⟨_,rfl⟩
 have HPP:=Lh (And.intro hp hr)
 clear hFF hS hb0 hp hr hd h1 h2
 go_enter Tryz.func23,Tryz.ntmps23
 obtain ⟨⟨x0,x1,x2,xl⟩,-⟩:=H0.out.da.db.all
 go_wp2_with fail
 clear x0 x1 x2 xl
 rw [<-HPP.out.2,<-HPP.out.1] at H0
 generalize (w.alloc (.cells #[.int .i64 d.vn,.slice X.A d.l.length X.c,.slice X.A2 d.F.length X.c2] 34)).alloc (.cells #[.bool false,.int .i64 0,.int .i64 0,.slice none 0 0,.int .i64 0,.int .i64 0,.slice none 0 0,.slice none 0 0] 72)=w2 at*
 rw [<-HPP.out.2,<-HPP.out.1]
 refine (HSP.out _ _ _ H0.out).mono ?_
 rintro e w3 ⟨rfl,hb⟩
 have H1:=Lh ((H0.out.below hb).below ((Below.refl _ _).alloc (nLR _) (.cells #[.int .i64 S.lo,.int .i64 S.hi,.int .i64 S.sh] 113)))
 have HS1:=Lh (SpB10.start w3 S 113)
 clear hb H0
 go_upto_region 2 with (fail)
 obtain ⟨s,hs⟩:∃ p,p=w3.heap.size:=⟨_,rfl⟩
 rw [<-hs] at HS1 ⊢
 clear hs
 generalize w3.alloc (.cells #[.int .i64 S.lo,.int .i64 S.hi,.int .i64 S.sh] 113)=w4 at*
 cases b with
 | false=>
  have HFF2:=Lh (HFF.out.trans (if_neg (by decide)))
  go_wp2_with fail
  skip
  refine (HFR.out _).mono ?_
  rintro e w5 ⟨D,rfl,hn,hr,hb⟩
  rw [<-HFF2.out] at hr ⊢
  have HN:=Lh (hn.low (show r+1<=_ from H1.out.rb.lt))
  have HRZ:=Lh (show r<w5.heap.size from Nat.lt_of_lt_of_le H1.out.rb.lt hb.size)
  have HA:=(Below.refl w5.heap.size w5).alloc (nLR _) (.cells #[.bool FF.lv,.int .i64 FF.lo,.int .i64 FF.hi,.slice D.A FF.cs.length D.c,.int .i64 FF.hd,.int .i64 FF.sz,.slice D.A2 FF.l.length D.c2,.slice D.A3 FF.h.length D.c3] 72)
  have H2:=Lh ((H1.out.below hb).below HA)
  have HB2:=Lh (SB8.start w5 FF D 72)
  have HR2:=Lh (hr.up HA)
  clear hn hr hb HA H1 HS1 HFF HFF2
  go_upto_region 4 with (fail)
  obtain ⟨z,hz⟩:∃ p,p=w5.heap.size:=⟨_,rfl⟩
  rw [<-hz] at HB2 HRZ ⊢
  clear hz
  generalize w5.alloc (.cells #[.bool FF.lv,.int .i64 FF.lo,.int .i64 FF.hi,.slice D.A FF.cs.length D.c,.int .i64 FF.hd,.int .i64 FF.sz,.slice D.A2 FF.l.length D.c2,.slice D.A3 FF.h.length D.c3] 72)=w6 at*
  obtain ⟨c0,c1,c2,c3,c4,c5,c6,c7,cl⟩:=HB2.out.facts
  obtain ⟨r0,r1,r2,r3,r4,r5,r6,r7,rl⟩:=H2.out.rb.facts
  obtain ⟨f0,f1,f2,f3,f4,f5,f6,f7⟩:=H2.out.rb.free
  have n1:¬z=r:=by have:=HRZ.out;omega
  have n2:¬r=z:=by have:=HRZ.out;omega
  have HF:=Lh (sv_out H2.out.rn H2.out.da.bel HN.out HR2.out)
  go_wp2
  exact bodyPost_ret (v:=sv FF D) (by simp only [results,Tryz.results23];go_simp <;> rfl) rfl HF.out
 | true=>
  have HFF2:=Lh (HFF.out.trans (if_pos rfl))
  obtain ⟨⟨c0,c1,c2⟩,cl⟩:=HS1.out
  go_wp2_with fail
  clear c0 c1 c2 cl
  refine (HNE.out _).mono ?_
  rintro e w5 ⟨D,rfl,hn,hr,hb⟩
  rw [<-HFF2.out] at hr ⊢
  have HN:=Lh (hn.low (show r+1<=_ from H1.out.rb.lt))
  have HRZ:=Lh (show r<w5.heap.size from Nat.lt_of_lt_of_le H1.out.rb.lt hb.size)
  have HA:=(Below.refl w5.heap.size w5).alloc (nLR _) (.cells #[.bool FF.lv,.int .i64 FF.lo,.int .i64 FF.hi,.slice D.A FF.cs.length D.c,.int .i64 FF.hd,.int .i64 FF.sz,.slice D.A2 FF.l.length D.c2,.slice D.A3 FF.h.length D.c3] 72)
  have H2:=Lh ((H1.out.below hb).below HA)
  have HB2:=Lh (SB8.start w5 FF D 72)
  have HR2:=Lh (hr.up HA)
  clear hn hr hb HA H1 HS1 HFF HFF2
  go_upto_region 6 with (fail)
  obtain ⟨z,hz⟩:∃ p,p=w5.heap.size:=⟨_,rfl⟩
  rw [<-hz] at HB2 HRZ ⊢
  clear hz
  generalize w5.alloc (.cells #[.bool FF.lv,.int .i64 FF.lo,.int .i64 FF.hi,.slice D.A FF.cs.length D.c,.int .i64 FF.hd,.int .i64 FF.sz,.slice D.A2 FF.l.length D.c2,.slice D.A3 FF.h.length D.c3] 72)=w6 at*
  obtain ⟨c0,c1,c2,c3,c4,c5,c6,c7,cl⟩:=HB2.out.facts
  obtain ⟨r0,r1,r2,r3,r4,r5,r6,r7,rl⟩:=H2.out.rb.facts
  obtain ⟨f0,f1,f2,f3,f4,f5,f6,f7⟩:=H2.out.rb.free
  have n1:¬z=r:=by have:=HRZ.out;omega
  have n2:¬r=z:=by have:=HRZ.out;omega
  have HF:=Lh (sv_out H2.out.rn H2.out.da.bel HN.out HR2.out)
  go_wp2
  exact bodyPost_ret (v:=sv FF D) (by simp only [results,Tryz.results23];go_simp <;> rfl) rfl HF.out
structure Su where
 sl:Int
 lv:Int
 cp:Int
 dd:Int
 lm:Int
 ck:Int
 ni:Int
 ep:Int
def zSu:Su:=⟨0,0,0,0,0,0,0,0⟩
abbrev Su.v (s:Su):Value:=.agg #[.int .i64 s.sl,.int .i64 s.lv,.int .i64 s.cp,.int .i64 s.dd,.int .i64 s.lm,.int .i64 s.ck,.int .i64 s.ni,.int .i64 s.ep]
def Su.Ok (s:Su):Prop:=(1<=s.sl/\s.sl<=6)/\(1<=s.lv/\s.lv<=s.sl)/\(1<=s.cp/\s.cp<=12)/\(1<=s.dd/\s.dd<=24)/\(1<=s.lm/\s.lm<=8)/\(0<=s.ck/\s.ck<=1073741824)/\(1<=s.ni/\s.ni<=1073741824)/\(0<=s.ep/\s.ep<=65536)
instance (s:Su):Decidable s.Ok:=by unfold Su.Ok;infer_instance
abbrev KSu (p:Nat) (s:Su) (W:World):Prop:=W.cell? ⟨p,0,none⟩=some (.int .i64 s.sl)/\W.cell? ⟨p,1,none⟩=some (.int .i64 s.lv)/\W.cell? ⟨p,2,none⟩=some (.int .i64 s.cp)/\W.cell? ⟨p,3,none⟩=some (.int .i64 s.dd)/\W.cell? ⟨p,4,none⟩=some (.int .i64 s.lm)/\W.cell? ⟨p,5,none⟩=some (.int .i64 s.ck)/\W.cell? ⟨p,6,none⟩=some (.int .i64 s.ni)/\W.cell? ⟨p,7,none⟩=some (.int .i64 s.ep)
structure SuB (W:World) (p:Nat) (s:Su):Prop where
 k:KSu p s W
 fr:∀ o,W.frozen? ⟨p,o,none⟩=false
 lt:p<W.heap.size
section
variable {W W' : World} {p g:Nat} {s:Su}
theorem SuB.keep (h:SuB W p s) (hc:∀ o,W'.cell? ⟨p,o,none⟩=W.cell? ⟨p,o,none⟩) (hf:∀ o,W'.frozen? ⟨p,o,none⟩=W.frozen? ⟨p,o,none⟩) (hs:W.heap.size<=W'.heap.size):SuB W' p s:=by
 obtain ⟨⟨k0,k1,k2,k3,k4,k5,k6,k7⟩,fr,lt⟩:=h
 exact ⟨⟨(hc 0).trans k0,(hc 1).trans k1,(hc 2).trans k2,(hc 3).trans k3,(hc 4).trans k4,(hc 5).trans k5,(hc 6).trans k6,(hc 7).trans k7⟩,fun o=>(hf o).trans (fr o),Nat.lt_of_lt_of_le lt hs⟩
theorem SuB.up (h:SuB W p s) (hb:Below W.heap.size W W'):SuB W' p s:=h.keep (fun o=>hb.cell (p:=⟨p,o,none⟩) h.lt) (fun o=>hb.frozen (p:=⟨p,o,none⟩) h.lt) hb.size
theorem SuB.alloc (h:SuB W p s) (o:Obj):SuB (W.alloc o) p s:=h.up ((Below.refl _ _).alloc (nLR _) o)
theorem SuB.other (h:SuB W p s) {x:Addr} (hne:x.block≠p) (v:Value):SuB (W.setCell x v) p s:=
 h.keep (fun o=>World.cell?_setCell_other W x ⟨p,o,none⟩ v (fun e=>hne (by rw [e]))) (fun o=>by simp [go_sem]) (by simp)
theorem SuB.grown (h:SuB W p s) (hg:W.grownBy W' (some g)) (hne:p≠g):SuB W' p s:=h.keep (fun o=>hg.cell_far ⟨p,o,none⟩ h.lt (fun e=>by injection e with e;exact hne e)) (fun o=>hg.frozen_far ⟨p,o,none⟩ h.lt (fun e=>by injection e with e;exact hne e)) hg.size
theorem SuB.start (w:World) (s:Su) (t:TypeId):SuB (w.alloc (.cells #[.int .i64 s.sl,.int .i64 s.lv,.int .i64 s.cp,.int .i64 s.dd,.int .i64 s.lm,.int .i64 s.ck,.int .i64 s.ni,.int .i64 s.ep] t)) w.heap.size s:=
 ⟨⟨by simp [go_sem],by simp [go_sem],by simp [go_sem],by simp [go_sem],by simp [go_sem],by simp [go_sem],by simp [go_sem],by simp [go_sem]⟩,fun o=>by simp [go_sem],by simp⟩
end
abbrev setS8 (W:World) (r:Nat) (s:Su):World:=(((((((W.setCell ⟨r,0,none⟩ (.int .i64 s.sl)).setCell ⟨r,1,none⟩ (.int .i64 s.lv)).setCell ⟨r,2,none⟩ (.int .i64 s.cp)).setCell ⟨r,3,none⟩ (.int .i64 s.dd)).setCell ⟨r,4,none⟩ (.int .i64 s.lm)).setCell ⟨r,5,none⟩ (.int .i64 s.ck)).setCell ⟨r,6,none⟩ (.int .i64 s.ni)).setCell ⟨r,7,none⟩ (.int .i64 s.ep)
def SrSetup (B g:Nat) (w:World) (e:Ending) (w' : World):Prop:=∃ s:Su,e=.returned s.v/\s.Ok/\SrcAt w' B g/\w.grownBy w' (some g)
structure SuAt (w:World) (B g r k:Nat) (s:Su) (W:World):Prop where
 src:SrcAt W B g
 rb:SuB W r zSu
 kb:SuB W k s
 gr:w.grownBy W (some g)
 ne:g<w.heap.size/\w.heap.size<=r/\r<k
section
variable {w W W' : World} {B g r k:Nat} {s:Su}
end
theorem awithin_any (n lo hi:Int) (w:World):Calls Tryz.prog 39 #[.int .i64 n,.int .i64 lo,.int .i64 hi] w fun e w'=>e=.returned (.bool (wi n lo hi))/\w=w':=by
 by_cases h1:lo<=n
 ·by_cases h2:n<=hi
  ·have H:=Lh (wi_true h1 h2)
   go_enter Tryz.func39,Tryz.ntmps39
   go_wp2
   go_ret
   exact ⟨by rw [H.out];rfl,rfl⟩
  ·have H:=Lh (show wi n lo hi=false from decide_eq_false (fun h=>h2 h.2))
   go_enter Tryz.func39,Tryz.ntmps39
   go_wp2
   go_ret
   exact ⟨by rw [H.out];rfl,rfl⟩
 ·have H:=Lh (show wi n lo hi=false from decide_eq_false (fun h=>h1 h.1))
  go_enter Tryz.func39,Tryz.ntmps39
  go_wp2
  go_ret
  exact ⟨by rw [H.out];rfl,rfl⟩
def suB (s:Su):Bool:=(((((((wi s.sl 1 6&&wi s.lv 1 s.sl)&&wi s.cp 1 12)&&wi s.dd 1 24)&&wi s.lm 1 8)&&wi s.ck 0 1073741824)&&wi s.ni 1 1073741824)&&wi s.ep 0 65536)
theorem suB_ok (s:Su):suB s=decide s.Ok:=by
 unfold suB wi Su.Ok
 rw [Bool.eq_iff_iff]
 simp only [Bool.and_eq_true,decide_eq_true_eq,and_assoc]
theorem suB_iff {s:Su}:suB s=true↔s.Ok:=by rw [suB_ok,decide_eq_true_eq]
theorem isset_any (s:Su) (w:World):Calls Tryz.prog 20 #[s.v] w fun e w'=>e=.returned (.bool (suB s))/\Below w.heap.size w w':=by
 have HWI:=Lh (fun n lo hi W=>awithin_any n lo hi W)
 have HSB:=Lh (SuB.start w s 41)
 have HBL:=Lh ((Below.refl w.heap.size w).alloc (nLR _) (.cells #[.int .i64 s.sl,.int .i64 s.lv,.int .i64 s.cp,.int .i64 s.dd,.int .i64 s.lm,.int .i64 s.ck,.int .i64 s.ni,.int .i64 s.ep] 41))
 obtain ⟨p,hp⟩:∃ p,p=w.heap.size:=⟨_,rfl⟩
 have HPP:=Lh hp
 clear hp
 obtain ⟨b0,hb0⟩:∃ b,b=wi s.sl 1 6:=⟨_,rfl⟩
 have H0:=Lh hb0.symm
 clear hb0
 obtain ⟨b1,hb1⟩:∃ b,b=wi s.lv 1 s.sl:=⟨_,rfl⟩
 have H1:=Lh hb1.symm
 clear hb1
 obtain ⟨b2,hb2⟩:∃ b,b=wi s.cp 1 12:=⟨_,rfl⟩
 have H2:=Lh hb2.symm
 clear hb2
 obtain ⟨b3,hb3⟩:∃ b,b=wi s.dd 1 24:=⟨_,rfl⟩
 have H3:=Lh hb3.symm
 clear hb3
 obtain ⟨b4,hb4⟩:∃ b,b=wi s.lm 1 8:=⟨_,rfl⟩
 have H4:=Lh hb4.symm
 clear hb4
 obtain ⟨b5,hb5⟩:∃ b,b=wi s.ck 0 1073741824:=⟨_,rfl⟩
 have H5:=Lh hb5.symm
 clear hb5
 obtain ⟨b6,hb6⟩:∃ b,b=wi s.ni 1 1073741824:=⟨_,rfl⟩
 have H6:=Lh hb6.symm
 clear hb6
 obtain ⟨b7,hb7⟩:∃ b,b=wi s.ep 0 65536:=⟨_,rfl⟩
 have H7:=Lh hb7.symm
 clear hb7
 have HSU:=Lh (show suB s=(((((((b0&&b1)&&b2)&&b3)&&b4)&&b5)&&b6)&&b7) from by unfold suB;rw [H0.out,H1.out,H2.out,H3.out,H4.out,H5.out,H6.out,H7.out])
 go_enter Tryz.func20,Tryz.ntmps20
 go_wp2_with fail
 rw [<-HPP.out] at HSB ⊢
 generalize w.alloc (.cells #[.int .i64 s.sl,.int .i64 s.lv,.int .i64 s.cp,.int .i64 s.dd,.int .i64 s.lm,.int .i64 s.ck,.int .i64 s.ni,.int .i64 s.ep] 41)=w0 at*
 obtain ⟨k0,k1,k2,k3,k4,k5,k6,k7⟩:=HSB.out.k
 have kl:=HSB.out.lt
 go_wp2_with fail
 refine (HWI.out _ _ _ _).mono ?_
 rintro e w1 ⟨rfl,rfl⟩
 rw [H0.out]
 cases b0 with
 | false=>
  go_wp2
  go_ret
  exact ⟨by rw [HSU.out];simp,HBL.out⟩
 | true=>
  go_wp2_with fail
  refine (HWI.out _ _ _ _).mono ?_
  rintro e w1 ⟨rfl,rfl⟩
  rw [H1.out]
  cases b1 with
  | false=>
   go_wp2
   go_ret
   exact ⟨by rw [HSU.out];simp,HBL.out⟩
  | true=>
   go_wp2_with fail
   refine (HWI.out _ _ _ _).mono ?_
   rintro e w1 ⟨rfl,rfl⟩
   rw [H2.out]
   cases b2 with
   | false=>
    go_wp2
    go_ret
    exact ⟨by rw [HSU.out];simp,HBL.out⟩
   | true=>
    go_wp2_with fail
    refine (HWI.out _ _ _ _).mono ?_
    rintro e w1 ⟨rfl,rfl⟩
    rw [H3.out]
    cases b3 with
    | false=>
     go_wp2
     go_ret
     exact ⟨by rw [HSU.out];simp,HBL.out⟩
    | true=>
     go_wp2_with fail
     refine (HWI.out _ _ _ _).mono ?_
     rintro e w1 ⟨rfl,rfl⟩
     rw [H4.out]
     cases b4 with
     | false=>
      go_wp2
      go_ret
      exact ⟨by rw [HSU.out];simp,HBL.out⟩
     | true=>
      go_wp2_with fail
      refine (HWI.out _ _ _ _).mono ?_
      rintro e w1 ⟨rfl,rfl⟩
      rw [H5.out]
      cases b5 with
      | false=>
       go_wp2
       go_ret
       exact ⟨by rw [HSU.out];simp,HBL.out⟩
      | true=>
       go_wp2_with fail
       refine (HWI.out _ _ _ _).mono ?_
       rintro e w1 ⟨rfl,rfl⟩
       rw [H6.out]
       cases b6 with
       | false=>
        go_wp2
        go_ret
        exact ⟨by rw [HSU.out];simp,HBL.out⟩
       | true=>
        go_wp2_with fail
        refine (HWI.out _ _ _ _).mono ?_
        rintro e w1 ⟨rfl,rfl⟩
        rw [H7.out]
        cases b7 with
        | false=>
         go_wp2
         go_ret
         exact ⟨by rw [HSU.out];simp,HBL.out⟩
        | true=>
         go_wp2
         go_ret
         exact ⟨by rw [HSU.out];rfl,HBL.out⟩
theorem ywithin_any (n lo hi:Int) (w:World):Calls Tryz.prog 142 #[.int .i64 n,.int .i64 lo,.int .i64 hi] w fun e w'=>e=.returned (.bool (wi n lo hi))/\w=w':=by
 by_cases h1:lo<=n
 ·by_cases h2:n<=hi
  ·have H:=Lh (wi_true h1 h2)
   go_enter Tryz.func142,Tryz.ntmps142
   go_wp2
   go_ret
   exact ⟨by rw [H.out];rfl,rfl⟩
  ·have H:=Lh (show wi n lo hi=false from decide_eq_false (fun h=>h2 h.2))
   go_enter Tryz.func142,Tryz.ntmps142
   go_wp2
   go_ret
   exact ⟨by rw [H.out];rfl,rfl⟩
 ·have H:=Lh (show wi n lo hi=false from decide_eq_false (fun h=>h1 h.1))
  go_enter Tryz.func142,Tryz.ntmps142
  go_wp2
  go_ret
  exact ⟨by rw [H.out];rfl,rfl⟩
theorem ynumber_any (n:Int) (w:World):Calls Tryz.prog 132 #[.int .i64 n] w fun e w'=>e=.returned (.bool (nbB n))/\w=w':=by
 have HC:=Lh (fun w=>ywithin_any n 0 1099511627776 w)
 have HE:=Lh (show wi n 0 1099511627776=nbB n from rfl)
 rw [HE.out] at HC
 clear HE
 generalize nbB n=b at*
 go_enter Tryz.func132,Tryz.ntmps132
 go_wp2_with fail
 refine (HC.out _).mono ?_
 rintro e w1 ⟨rfl,rfl⟩
 go_wp2
 go_ret
 exact ⟨rfl,rfl⟩
theorem yodd_any (n:Int) (w:World):Calls Tryz.prog 133 #[.int .i64 n] w fun e w'=>e=.returned (.bool (!evB n))/\w=w':=by
 have H:=Lh (evB_not n)
 go_enter Tryz.func133,Tryz.ntmps133
 go_wp2
 go_ret
 exact ⟨by rw [<-H.out];rfl,rfl⟩
def StE (w:World) (T:St) (x:Int) (e:Ending) (w' : World):Prop:=e=.returned (.tuple #[T.v,.int .i64 x])/\Below w.heap.size w w'
theorem below4 {w W:World} {B r:Nat} (h:Below B w W) (hr:B<=r) (a b c d:Value):Below B w ((((W.setCell ⟨r,0,none⟩ a).setCell ⟨r,1,none⟩ b).setCell ⟨r,2,none⟩ c).setCell ⟨r,3,none⟩ d):=
 (((h.setCell (p:=⟨r,0,none⟩) hr _).setCell (p:=⟨r,1,none⟩) hr _).setCell (p:=⟨r,2,none⟩) hr _).setCell (p:=⟨r,3,none⟩) hr _
theorem below2 (w:World) (x y:Obj):Below w.heap.size w ((w.alloc x).alloc y):=((Below.refl _ _).alloc (nLR _) x).alloc (by simp) y
end Go.Proofs.YtkecnihgjepfeaaGreat
