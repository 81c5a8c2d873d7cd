/- What is proved here: parts of the proof: Qfs Qsu Qi Yb Sco7 Scp7. -/
import Derived.Test.YtkecnihgjepfeaaGreatJ23
namespace Go.Proofs.YtkecnihgjepfeaaGreat
open Go.RowKit
set_option linter.unusedVariables false
set_option linter.unusedSimpArgs false
set_option maxHeartbeats 8000000
set_option maxRecDepth 20000
noncomputable def ffS (d:Dd) (j:Int) (k:Nat):Sh:=if spnB d j=true then neS (k:Int) (spnD d j).lo (spnD d j).hi else frS k
structure Fs12 (w:World) (p r:Nat) (d:Dd) (X:Dx) (W:World):Prop where
 da:DAt w p d X W
 rb:SB8 W r zS zX
 rn:w.heap.size<=r
section
variable {w W W' : World} {p r:Nat} {d:Dd} {X:Dx}
theorem Fs12.below (h:Fs12 w p r d X W) (hb:Below W.heap.size W W'):Fs12 w p r d X W':=⟨h.da.below hb,h.rb.up hb,h.rn⟩
theorem Fs12.start (hd:DR w w.heap.size d X):Fs12 w w.heap.size (w.heap.size+1) d X ((w.alloc (.cells #[.int .i64 d.vn,.slice X.A d.l.length X.c,.slice X.A2 d.F.length X.c2] 34)).alloc (.cells #[.bool false,.int .i64 0,.int .i64 0,.slice none 0 0,.int .i64 0,.int .i64 0,.slice none 0 0,.slice none 0 0] 72)):=by
 have h1:=SB8.zero (w.alloc (.cells #[.int .i64 d.vn,.slice X.A d.l.length X.c,.slice X.A2 d.F.length X.c2] 34)) 72
 rw [show (w.alloc (.cells #[.int .i64 d.vn,.slice X.A d.l.length X.c,.slice X.A2 d.F.length X.c2] 34)).heap.size=w.heap.size+1 by simp] at h1
 exact ⟨(DAt.start _ hd).below ((Below.refl _ _).alloc (nLR _) _),h1,by omega⟩
theorem sv_out {w W:World} {r:Nat} {S:Sh} {D:Sx} (hr:w.heap.size<=r) (hb:Below w.heap.size w W) (hn:D.nw (r+1)) (hs:SR W W.heap.size S D):SV w S (.returned (sv S D)) (set8s W r S D):=
 ⟨D,rfl,hn.low (by omega),SR.sets (hn.off (Nat.lt_succ_self r)) (S.l8 D) 0 W hs,set8s_below hr hb S D⟩
end
theorem fshard_any (d:Dd) (X:Dx) (j:Int) (k:Nat) (w:World) (hd:DR w w.heap.size d X) (h1:1<=k) (h2:k<=12) :
  Calls Tryz.prog 23 #[dv d X,.int .i64 j,.int .i64 (k:Int)] w (SV w (ffS d j k)):=by
 have H0:=Lh (Fs12.start hd)
 have HSP:=Lh (fun p r W (k:Fs12 w p r d X W)=>dspan_any d X j W k.da.dr)
 have HFR:=Lh (fun W=>sfree_any k W h1 h2)
 obtain ⟨FF,hFF⟩:∃ FF,FF=ffS d j k:=⟨_,rfl⟩
 have HFF:=Lh (show FF=if spnB d j=true then neS (k:Int) (spnD d j).lo (spnD d j).hi else frS k from hFF)
 obtain ⟨S,hS⟩:∃ S,S=spnD d j:=⟨_,rfl⟩
 obtain ⟨b,hb0⟩:∃ b,b=spnB d j:=⟨_,rfl⟩
 have HNE:=Lh (fun W=>snew_any (k:Int) S.lo S.hi W)
 rw [<-hS,<-hb0] at HFF
 rw [<-hFF]
 rw [<-hS,<-hb0] at HSP
 obtain ⟨p,hp⟩:∃ p,p=w.heap.size:=⟨_,rfl⟩
 obtain ⟨r,hr⟩:∃ r,r=w.heap.size+1:=⟨_,rfl⟩
 have HPP:=Lh (And.intro hp hr)
 clear hFF hS hb0 hp hr hd h1 h2
 go_enter Tryz.func23,Tryz.ntmps23
 obtain ⟨⟨x0,x1,x2,xl⟩,-⟩:=H0.out.da.db.all
 go_wp2_with fail
 clear x0 x1 x2 xl
 rw [<-HPP.out.2,<-HPP.out.1] at H0
 generalize (w.alloc (.cells #[.int .i64 d.vn,.slice X.A d.l.length X.c,.slice X.A2 d.F.length X.c2] 34)).alloc (.cells #[.bool false,.int .i64 0,.int .i64 0,.slice none 0 0,.int .i64 0,.int .i64 0,.slice none 0 0,.slice none 0 0] 72)=w2 at*
 rw [<-HPP.out.2,<-HPP.out.1]
 refine (HSP.out _ _ _ H0.out).mono ?_
 rintro e w3 ⟨rfl,hb⟩
 have H1:=Lh ((H0.out.below hb).below ((Below.refl _ _).alloc (nLR _) (.cells #[.int .i64 S.lo,.int .i64 S.hi,.int .i64 S.sh] 113)))
 have HS1:=Lh (SpB10.start w3 S 113)
 clear hb H0
 go_upto_region 2 with (fail)
 obtain ⟨s,hs⟩:∃ p,p=w3.heap.size:=⟨_,rfl⟩
 rw [<-hs] at HS1 ⊢
 clear hs
 generalize w3.alloc (.cells #[.int .i64 S.lo,.int .i64 S.hi,.int .i64 S.sh] 113)=w4 at*
 cases b with
 | false=>
  have HFF2:=Lh (HFF.out.trans (if_neg (by decide)))
  go_wp2_with fail
  skip
  refine (HFR.out _).mono ?_
  rintro e w5 ⟨D,rfl,hn,hr,hb⟩
  rw [<-HFF2.out] at hr ⊢
  have HN:=Lh (hn.low (show r+1<=_ from H1.out.rb.lt))
  have HRZ:=Lh (show r<w5.heap.size from Nat.lt_of_lt_of_le H1.out.rb.lt hb.size)
  have HA:=(Below.refl w5.heap.size w5).alloc (nLR _) (.cells #[.bool FF.lv,.int .i64 FF.lo,.int .i64 FF.hi,.slice D.A FF.cs.length D.c,.int .i64 FF.hd,.int .i64 FF.sz,.slice D.A2 FF.l.length D.c2,.slice D.A3 FF.h.length D.c3] 72)
  have H2:=Lh ((H1.out.below hb).below HA)
  have HB2:=Lh (SB8.start w5 FF D 72)
  have HR2:=Lh (hr.up HA)
  clear hn hr hb HA H1 HS1 HFF HFF2
  go_upto_region 4 with (fail)
  obtain ⟨z,hz⟩:∃ p,p=w5.heap.size:=⟨_,rfl⟩
  rw [<-hz] at HB2 HRZ ⊢
  clear hz
  generalize w5.alloc (.cells #[.bool FF.lv,.int .i64 FF.lo,.int .i64 FF.hi,.slice D.A FF.cs.length D.c,.int .i64 FF.hd,.int .i64 FF.sz,.slice D.A2 FF.l.length D.c2,.slice D.A3 FF.h.length D.c3] 72)=w6 at*
  obtain ⟨c0,c1,c2,c3,c4,c5,c6,c7,cl⟩:=HB2.out.facts
  obtain ⟨r0,r1,r2,r3,r4,r5,r6,r7,rl⟩:=H2.out.rb.facts
  obtain ⟨f0,f1,f2,f3,f4,f5,f6,f7⟩:=H2.out.rb.free
  have n1:¬z=r:=by have:=HRZ.out;omega
  have n2:¬r=z:=by have:=HRZ.out;omega
  have HF:=Lh (sv_out H2.out.rn H2.out.da.bel HN.out HR2.out)
  go_wp2
  exact bodyPost_ret (v:=sv FF D) (by simp only [results,Tryz.results23];go_simp <;> rfl) rfl HF.out
 | true=>
  have HFF2:=Lh (HFF.out.trans (if_pos rfl))
  obtain ⟨⟨c0,c1,c2⟩,cl⟩:=HS1.out
  go_wp2_with fail
  clear c0 c1 c2 cl
  refine (HNE.out _).mono ?_
  rintro e w5 ⟨D,rfl,hn,hr,hb⟩
  rw [<-HFF2.out] at hr ⊢
  have HN:=Lh (hn.low (show r+1<=_ from H1.out.rb.lt))
  have HRZ:=Lh (show r<w5.heap.size from Nat.lt_of_lt_of_le H1.out.rb.lt hb.size)
  have HA:=(Below.refl w5.heap.size w5).alloc (nLR _) (.cells #[.bool FF.lv,.int .i64 FF.lo,.int .i64 FF.hi,.slice D.A FF.cs.length D.c,.int .i64 FF.hd,.int .i64 FF.sz,.slice D.A2 FF.l.length D.c2,.slice D.A3 FF.h.length D.c3] 72)
  have H2:=Lh ((H1.out.below hb).below HA)
  have HB2:=Lh (SB8.start w5 FF D 72)
  have HR2:=Lh (hr.up HA)
  clear hn hr hb HA H1 HS1 HFF HFF2
  go_upto_region 6 with (fail)
  obtain ⟨z,hz⟩:∃ p,p=w5.heap.size:=⟨_,rfl⟩
  rw [<-hz] at HB2 HRZ ⊢
  clear hz
  generalize w5.alloc (.cells #[.bool FF.lv,.int .i64 FF.lo,.int .i64 FF.hi,.slice D.A FF.cs.length D.c,.int .i64 FF.hd,.int .i64 FF.sz,.slice D.A2 FF.l.length D.c2,.slice D.A3 FF.h.length D.c3] 72)=w6 at*
  obtain ⟨c0,c1,c2,c3,c4,c5,c6,c7,cl⟩:=HB2.out.facts
  obtain ⟨r0,r1,r2,r3,r4,r5,r6,r7,rl⟩:=H2.out.rb.facts
  obtain ⟨f0,f1,f2,f3,f4,f5,f6,f7⟩:=H2.out.rb.free
  have n1:¬z=r:=by have:=HRZ.out;omega
  have n2:¬r=z:=by have:=HRZ.out;omega
  have HF:=Lh (sv_out H2.out.rn H2.out.da.bel HN.out HR2.out)
  go_wp2
  exact bodyPost_ret (v:=sv FF D) (by simp only [results,Tryz.results23];go_simp <;> rfl) rfl HF.out
structure Su where
 sl:Int
 lv:Int
 cp:Int
 dd:Int
 lm:Int
 ck:Int
 ni:Int
 ep:Int
def zSu:Su:=⟨0,0,0,0,0,0,0,0⟩
abbrev Su.v (s:Su):Value:=.agg #[.int .i64 s.sl,.int .i64 s.lv,.int .i64 s.cp,.int .i64 s.dd,.int .i64 s.lm,.int .i64 s.ck,.int .i64 s.ni,.int .i64 s.ep]
def Su.Ok (s:Su):Prop:=(1<=s.sl/\s.sl<=6)/\(1<=s.lv/\s.lv<=s.sl)/\(1<=s.cp/\s.cp<=12)/\(1<=s.dd/\s.dd<=24)/\(1<=s.lm/\s.lm<=8)/\(0<=s.ck/\s.ck<=1073741824)/\(1<=s.ni/\s.ni<=1073741824)/\(0<=s.ep/\s.ep<=65536)
instance (s:Su):Decidable s.Ok:=by unfold Su.Ok;infer_instance
abbrev KSu (p:Nat) (s:Su) (W:World):Prop:=W.cell? ⟨p,0,none⟩=some (.int .i64 s.sl)/\W.cell? ⟨p,1,none⟩=some (.int .i64 s.lv)/\W.cell? ⟨p,2,none⟩=some (.int .i64 s.cp)/\W.cell? ⟨p,3,none⟩=some (.int .i64 s.dd)/\W.cell? ⟨p,4,none⟩=some (.int .i64 s.lm)/\W.cell? ⟨p,5,none⟩=some (.int .i64 s.ck)/\W.cell? ⟨p,6,none⟩=some (.int .i64 s.ni)/\W.cell? ⟨p,7,none⟩=some (.int .i64 s.ep)
structure SuB (W:World) (p:Nat) (s:Su):Prop where
 k:KSu p s W
 fr:∀ o,W.frozen? ⟨p,o,none⟩=false
 lt:p<W.heap.size
section
variable {W W' : World} {p g:Nat} {s:Su}
theorem SuB.keep (h:SuB W p s) (hc:∀ o,W'.cell? ⟨p,o,none⟩=W.cell? ⟨p,o,none⟩) (hf:∀ o,W'.frozen? ⟨p,o,none⟩=W.frozen? ⟨p,o,none⟩) (hs:W.heap.size<=W'.heap.size):SuB W' p s:=by
 obtain ⟨⟨k0,k1,k2,k3,k4,k5,k6,k7⟩,fr,lt⟩:=h
 exact ⟨⟨(hc 0).trans k0,(hc 1).trans k1,(hc 2).trans k2,(hc 3).trans k3,(hc 4).trans k4,(hc 5).trans k5,(hc 6).trans k6,(hc 7).trans k7⟩,fun o=>(hf o).trans (fr o),Nat.lt_of_lt_of_le lt hs⟩
theorem SuB.up (h:SuB W p s) (hb:Below W.heap.size W W'):SuB W' p s:=h.keep (fun o=>hb.cell (p:=⟨p,o,none⟩) h.lt) (fun o=>hb.frozen (p:=⟨p,o,none⟩) h.lt) hb.size
theorem SuB.alloc (h:SuB W p s) (o:Obj):SuB (W.alloc o) p s:=h.up ((Below.refl _ _).alloc (nLR _) o)
theorem SuB.other (h:SuB W p s) {x:Addr} (hne:x.block≠p) (v:Value):SuB (W.setCell x v) p s:=
 h.keep (fun o=>World.cell?_setCell_other W x ⟨p,o,none⟩ v (fun e=>hne (by rw [e]))) (fun o=>by simp [go_sem]) (by simp)
theorem SuB.grown (h:SuB W p s) (hg:W.grownBy W' (some g)) (hne:p≠g):SuB W' p s:=h.keep (fun o=>hg.cell_far ⟨p,o,none⟩ h.lt (fun e=>by injection e with e;exact hne e)) (fun o=>hg.frozen_far ⟨p,o,none⟩ h.lt (fun e=>by injection e with e;exact hne e)) hg.size
theorem SuB.start (w:World) (s:Su) (t:TypeId):SuB (w.alloc (.cells #[.int .i64 s.sl,.int .i64 s.lv,.int .i64 s.cp,.int .i64 s.dd,.int .i64 s.lm,.int .i64 s.ck,.int .i64 s.ni,.int .i64 s.ep] t)) w.heap.size s:=
 ⟨⟨by simp [go_sem],by simp [go_sem],by simp [go_sem],by simp [go_sem],by simp [go_sem],by simp [go_sem],by simp [go_sem],by simp [go_sem]⟩,fun o=>by simp [go_sem],by simp⟩
theorem SuB.free (h:SuB W p s):W.frozen? ⟨p,0,none⟩=false/\W.frozen? ⟨p,1,none⟩=false/\W.frozen? ⟨p,2,none⟩=false/\W.frozen? ⟨p,3,none⟩=false/\W.frozen? ⟨p,4,none⟩=false/\W.frozen? ⟨p,5,none⟩=false/\W.frozen? ⟨p,6,none⟩=false/\W.frozen? ⟨p,7,none⟩=false:=⟨h.fr 0,h.fr 1,h.fr 2,h.fr 3,h.fr 4,h.fr 5,h.fr 6,h.fr 7⟩
end
abbrev setS8 (W:World) (r:Nat) (s:Su):World:=(((((((W.setCell ⟨r,0,none⟩ (.int .i64 s.sl)).setCell ⟨r,1,none⟩ (.int .i64 s.lv)).setCell ⟨r,2,none⟩ (.int .i64 s.cp)).setCell ⟨r,3,none⟩ (.int .i64 s.dd)).setCell ⟨r,4,none⟩ (.int .i64 s.lm)).setCell ⟨r,5,none⟩ (.int .i64 s.ck)).setCell ⟨r,6,none⟩ (.int .i64 s.ni)).setCell ⟨r,7,none⟩ (.int .i64 s.ep)
def SrSetup (B g:Nat) (w:World) (e:Ending) (w' : World):Prop:=∃ s:Su,e=.returned s.v/\s.Ok/\SrcAt w' B g/\w.grownBy w' (some g)
structure SuAt (w:World) (B g r k:Nat) (s:Su) (W:World):Prop where
 src:SrcAt W B g
 rb:SuB W r zSu
 kb:SuB W k s
 gr:w.grownBy W (some g)
 ne:g<w.heap.size/\w.heap.size<=r/\r<k
section
variable {w W W' : World} {B g r k:Nat} {s:Su}
theorem SuAt.turn (h:SuAt w B g r k s W) (hs:SrcAt W' B g) (hg:W.grownBy W' (some g)):SuAt w B g r k s W':=
 ⟨hs,h.rb.grown hg (by have:=h.ne;omega),h.kb.grown hg (by have:=h.ne;omega),h.gr.trans hg,h.ne⟩
theorem SuAt.put (h:SuAt w B g r k s W) {j:Nat} {x:Int} {s' : Su} (hk:SuB (W.setCell ⟨k,j,none⟩ (.int .i64 x)) k s'):SuAt w B g r k s' (W.setCell ⟨k,j,none⟩ (.int .i64 x)):=by
 have hn:=h.ne
 have hB:=h.src.1
 exact ⟨h.src.other (p:=⟨k,j,none⟩) (show k≠g by omega) (show B<=k by omega) _,h.rb.other (x:=⟨k,j,none⟩) (show k≠r by omega) _,hk,only_set h.gr (p:=⟨k,j,none⟩) (.inr (show w.heap.size<=k by omega)) _,h.ne⟩
theorem SuB.p1 (h:SuB W k s) (x:Int):SuB (W.setCell ⟨k,1,none⟩ (.int .i64 x)) k ⟨s.sl,x,s.cp,s.dd,s.lm,s.ck,s.ni,s.ep⟩:=by
 obtain ⟨⟨k0,k1,k2,k3,k4,k5,k6,k7⟩,fr,lt⟩:=h
 exact ⟨⟨by simp [go_sem,k0],by simp [go_sem,k1],by simp [go_sem,k2],by simp [go_sem,k3],by simp [go_sem,k4],by simp [go_sem,k5],by simp [go_sem,k6],by simp [go_sem,k7]⟩,fun o=>by simp [go_sem,fr o],by simp [lt]⟩
theorem SuB.p5 (h:SuB W k s) (x:Int):SuB (W.setCell ⟨k,5,none⟩ (.int .i64 x)) k ⟨s.sl,s.lv,s.cp,s.dd,s.lm,x,s.ni,s.ep⟩:=by
 obtain ⟨⟨k0,k1,k2,k3,k4,k5,k6,k7⟩,fr,lt⟩:=h
 exact ⟨⟨by simp [go_sem,k0],by simp [go_sem,k1],by simp [go_sem,k2],by simp [go_sem,k3],by simp [go_sem,k4],by simp [go_sem,k5],by simp [go_sem,k6],by simp [go_sem,k7]⟩,fun o=>by simp [go_sem,fr o],by simp [lt]⟩
theorem SuB.p6 (h:SuB W k s) (x:Int):SuB (W.setCell ⟨k,6,none⟩ (.int .i64 x)) k ⟨s.sl,s.lv,s.cp,s.dd,s.lm,s.ck,x,s.ep⟩:=by
 obtain ⟨⟨k0,k1,k2,k3,k4,k5,k6,k7⟩,fr,lt⟩:=h
 exact ⟨⟨by simp [go_sem,k0],by simp [go_sem,k1],by simp [go_sem,k2],by simp [go_sem,k3],by simp [go_sem,k4],by simp [go_sem,k5],by simp [go_sem,k6],by simp [go_sem,k7]⟩,fun o=>by simp [go_sem,fr o],by simp [lt]⟩
theorem SuB.p7 (h:SuB W k s) (x:Int):SuB (W.setCell ⟨k,7,none⟩ (.int .i64 x)) k ⟨s.sl,s.lv,s.cp,s.dd,s.lm,s.ck,s.ni,x⟩:=by
 obtain ⟨⟨k0,k1,k2,k3,k4,k5,k6,k7⟩,fr,lt⟩:=h
 exact ⟨⟨by simp [go_sem,k0],by simp [go_sem,k1],by simp [go_sem,k2],by simp [go_sem,k3],by simp [go_sem,k4],by simp [go_sem,k5],by simp [go_sem,k6],by simp [go_sem,k7]⟩,fun o=>by simp [go_sem,fr o],by simp [lt]⟩
theorem SuAt.out (h:SuAt w B g r k s W) (ho:s.Ok):SrSetup B g w (.returned s.v) (setS8 W r s):=by
 have hn:=h.ne
 have hB:B<=r:=by have:=h.src.1;omega
 have hg:r≠g:=by omega
 exact ⟨s,rfl,ho,(((((((h.src.other (p:=⟨r,0,none⟩) hg hB _).other (p:=⟨r,1,none⟩) hg hB _).other (p:=⟨r,2,none⟩) hg hB _).other (p:=⟨r,3,none⟩) hg hB _).other (p:=⟨r,4,none⟩) hg hB _).other (p:=⟨r,5,none⟩) hg hB _).other (p:=⟨r,6,none⟩) hg hB _).other (p:=⟨r,7,none⟩) hg hB _,
  only_set (only_set (only_set (only_set (only_set (only_set (only_set (only_set h.gr (p:=⟨r,0,none⟩) (.inr hn.2.1) _) (p:=⟨r,1,none⟩) (.inr hn.2.1) _) (p:=⟨r,2,none⟩) (.inr hn.2.1) _) (p:=⟨r,3,none⟩) (.inr hn.2.1) _) (p:=⟨r,4,none⟩) (.inr hn.2.1) _) (p:=⟨r,5,none⟩) (.inr hn.2.1) _) (p:=⟨r,6,none⟩) (.inr hn.2.1) _) (p:=⟨r,7,none⟩) (.inr hn.2.1) _⟩
end
theorem setup_any (B g:Nat) (w:World) (h:SrcAt w B g):Calls Tryz.prog 7 #[.pointer (some ⟨g,0,none⟩)] w (SrSetup B g w):=by
 have HGW:=Lh (show g<w.heap.size from h.2.1)
 have HR0:=Lh (SuB.start w zSu 41)
 have HS0:=Lh (h.alloc (.cells #[.int .i64 0,.int .i64 0,.int .i64 0,.int .i64 0,.int .i64 0,.int .i64 0,.int .i64 0,.int .i64 0] 41))
 have HG0:=Lh (only_alloc (World.grownBy.refl w (some g)) (.cells #[.int .i64 0,.int .i64 0,.int .i64 0,.int .i64 0,.int .i64 0,.int .i64 0,.int .i64 0,.int .i64 0] 41))
 obtain ⟨r,hr⟩:∃ r,r=w.heap.size:=⟨_,rfl⟩
 have HRG:=Lh (show w.heap.size<=r/\r≠g by have:=h.2.1;omega)
 have HR0:=Lh (show SuB (w.alloc (.cells #[.int .i64 0,.int .i64 0,.int .i64 0,.int .i64 0,.int .i64 0,.int .i64 0,.int .i64 0,.int .i64 0] 41)) r zSu by rw [hr];exact HR0.out)
 clear h
 go_enter Tryz.func7,Tryz.ntmps7
 go_wp2_with fail
 rw [<-hr]
 generalize w.alloc (.cells #[.int .i64 0,.int .i64 0,.int .i64 0,.int .i64 0,.int .i64 0,.int .i64 0,.int .i64 0,.int .i64 0] 41)=w1 at*
 clear hr
 refine (range_any B g _ HS0.out 1 4 (by omega) (by omega) (by omega)).mono ?_
 rintro e w2 ⟨a,rfl,a1,a2,hs,hg⟩
 have HA:=Lh (And.intro a1 a2)
 have HS2:=Lh hs
 have HG2:=Lh (HG0.out.trans hg)
 have HR2:=Lh (HR0.out.grown hg HRG.out.2)
 clear hs hg a1 a2 HS0 HG0 HR0
 go_wp2_with fail
 refine (range_any B g _ HS2.out 1 5 (by omega) (by omega) (by omega)).mono ?_
 rintro e w3 ⟨b,rfl,b1,b2,hs,hg⟩
 have HB:=Lh (And.intro b1 b2)
 have HS3:=Lh hs
 have HG3:=Lh (HG2.out.trans hg)
 have HR3:=Lh (HR2.out.grown hg HRG.out.2)
 clear hs hg b1 b2 HS2 HG2 HR2
 go_wp2_with fail
 refine (range_any B g _ HS3.out 1 4 (by omega) (by omega) (by omega)).mono ?_
 rintro e w4 ⟨c,rfl,c1,c2,hs,hg⟩
 have HC:=Lh (And.intro c1 c2)
 have HS4:=Lh hs
 have HG4:=Lh (HG3.out.trans hg)
 have HR4:=Lh (HR3.out.grown hg HRG.out.2)
 clear hs hg c1 c2 HS3 HG3 HR3
 go_wp2_with fail
 refine (range_any B g _ HS4.out 1 3 (by omega) (by omega) (by omega)).mono ?_
 rintro e w5 ⟨d,rfl,d1,d2,hs,hg⟩
 have HT0:=Lh (show SuAt w B g r w5.heap.size ⟨a,0,b,c,d,0,1,0⟩ (w5.alloc (.cells #[.int .i64 a,.int .i64 0,.int .i64 b,.int .i64 c,.int .i64 d,.int .i64 0,.int .i64 1,.int .i64 0] 41)) from
  ⟨hs.alloc _,(HR4.out.grown hg HRG.out.2).alloc _,SuB.start w5 ⟨a,0,b,c,d,0,1,0⟩ _,only_alloc (HG4.out.trans hg) _,HGW.out,HRG.out.1,(HR4.out.grown hg HRG.out.2).lt⟩)
 have HOK:=Lh (show (1<=a/\a<=4)/\(1<=b/\b<=5)/\(1<=c/\c<=4)/\(1<=d/\d<=3) from ⟨HA.out,HB.out,HC.out,d1,d2⟩)
 clear hs hg d1 d2 HS4 HG4 HR4 HA HB HC
 go_upto_region 2 with (fail)
 obtain ⟨k,hk⟩:∃ k,k=w5.heap.size:=⟨_,rfl⟩
 rw [<-hk] at HT0 ⊢
 clear hk
 generalize w5.alloc (.cells #[.int .i64 a,.int .i64 0,.int .i64 b,.int .i64 c,.int .i64 d,.int .i64 0,.int .i64 1,.int .i64 0] 41)=w6 at*
 obtain ⟨k0,k1,k2,k3,k4,k5,k6,k7⟩:=HT0.out.kb.k
 have kl:=HT0.out.kb.lt
 go_wp2_with fail
 clear k0 k1 k2 k3 k4 k5 k6 k7 kl
 refine (range_any B g _ HT0.out.src 1 a (by omega) HOK.out.1.1 (by have:=HOK.out;omega)).mono ?_
 rintro e w7 ⟨m,rfl,m1,m2,hs,hg⟩
 have HM:=Lh (And.intro m1 m2)
 have HT1:=Lh (HT0.out.turn hs hg)
 clear hs hg m1 m2 HT0
 have HT2:=Lh (HT1.out.put (HT1.out.kb.p1 m))
 obtain ⟨k0,k1,k2,k3,k4,k5,k6,k7⟩:=HT1.out.kb.k
 obtain ⟨f0,f1,f2,f3,f4,f5,f6,f7⟩:=HT1.out.kb.free
 have kl:=HT1.out.kb.lt
 go_upto_region 3 with (fail)
 clear k0 k1 k2 k3 k4 k5 k6 k7 kl f0 f1 f2 f3 f4 f5 f6 f7 HT1
 generalize w7.setCell ⟨k,1,none⟩ (.int .i64 m)=w8 at*
 go_wp2_with fail
 refine (n_any B g _ HT2.out.src 12 (by omega) (by omega)).mono ?_
 rintro e w9 ⟨v,rfl,v0,v1,hs,hg⟩
 have HT:=Lh (HT2.out.turn hs hg)
 clear hs hg HT2
 have hrk:=HT.out.ne
 by_cases h9:v=9
 ·subst h9
  go_wp2_with fail
  refine (n_any B g _ HT.out.src 200 (by omega) (by omega)).mono ?_
  rintro e w10 ⟨x,rfl,x0,x1,hs,hg⟩
  have HX:=Lh (And.intro x0 x1)
  have HT3:=Lh (HT.out.turn hs hg)
  have hwx:IntKind.i64.wrap (1073741824 - x)=1073741824 - x:=IntWalk.i64_in _ (by omega)
  have HT4:=Lh (HT3.out.put (HT3.out.kb.p5 (1073741824 - x)))
  clear hs hg x0 x1 HT
  obtain ⟨k0,k1,k2,k3,k4,k5,k6,k7⟩:=HT3.out.kb.k
  obtain ⟨f0,f1,f2,f3,f4,f5,f6,f7⟩:=HT3.out.kb.free
  have kl:=HT3.out.kb.lt
  go_upto_region 10 with (fail)
  clear k0 k1 k2 k3 k4 k5 k6 k7 kl f0 f1 f2 f3 f4 f5 f6 f7 HT3 hwx
  generalize w10.setCell ⟨k,5,none⟩ (.int .i64 (1073741824 - x))=w11 at*
  have HF:=Lh (HT4.out.out (by have h1:=HOK.out;have h2:=HM.out;unfold Su.Ok;dsimp only;have h3:=HX.out;omega))
  obtain ⟨k0,k1,k2,k3,k4,k5,k6,k7⟩:=HT4.out.kb.k
  obtain ⟨r0,r1,r2,r3,r4,r5,r6,r7⟩:=HT4.out.rb.k
  obtain ⟨f0,f1,f2,f3,f4,f5,f6,f7⟩:=HT4.out.rb.free
  have kl:=HT4.out.kb.lt
  have rl:=HT4.out.rb.lt
  have hkr:¬k=r:=by omega
  have hrk2:¬r=k:=by omega
  dsimp only at k0 k1 k2 k3 k4 k5 k6 k7
  clear hrk
  go_wp2
  exact bodyPost_ret (v:=(⟨a,m,b,c,d,1073741824 - x,1,0⟩:Su).v) (by simp only [results,Tryz.results7];go_simp <;> rfl) rfl HF.out
 ·by_cases h10:v=10
  ·subst h10
   go_wp2_with fail
   refine (n_any B g _ HT.out.src 4 (by omega) (by omega)).mono ?_
   rintro e w10 ⟨x,rfl,x0,x1,hs,hg⟩
   have HX:=Lh (And.intro x0 x1)
   have HT3:=Lh (HT.out.turn hs hg)
   have hwx:IntKind.i64.wrap (1073741824 - x)=1073741824 - x:=IntWalk.i64_in _ (by omega)
   have HT4:=Lh (HT3.out.put (HT3.out.kb.p6 (1073741824 - x)))
   clear hs hg x0 x1 HT
   obtain ⟨k0,k1,k2,k3,k4,k5,k6,k7⟩:=HT3.out.kb.k
   obtain ⟨f0,f1,f2,f3,f4,f5,f6,f7⟩:=HT3.out.kb.free
   have kl:=HT3.out.kb.lt
   go_upto_region 10 with (fail)
   clear k0 k1 k2 k3 k4 k5 k6 k7 kl f0 f1 f2 f3 f4 f5 f6 f7 HT3 hwx
   generalize w10.setCell ⟨k,6,none⟩ (.int .i64 (1073741824 - x))=w11 at*
   have HF:=Lh (HT4.out.out (by have h1:=HOK.out;have h2:=HM.out;unfold Su.Ok;dsimp only;have h3:=HX.out;omega))
   obtain ⟨k0,k1,k2,k3,k4,k5,k6,k7⟩:=HT4.out.kb.k
   obtain ⟨r0,r1,r2,r3,r4,r5,r6,r7⟩:=HT4.out.rb.k
   obtain ⟨f0,f1,f2,f3,f4,f5,f6,f7⟩:=HT4.out.rb.free
   have kl:=HT4.out.kb.lt
   have rl:=HT4.out.rb.lt
   have hkr:¬k=r:=by omega
   have hrk2:¬r=k:=by omega
   dsimp only at k0 k1 k2 k3 k4 k5 k6 k7
   clear hrk
   go_wp2
   exact bodyPost_ret (v:=(⟨a,m,b,c,d,0,1073741824 - x,0⟩:Su).v) (by simp only [results,Tryz.results7];go_simp <;> rfl) rfl HF.out
  ·by_cases h11:v=11
   ·subst h11
    go_wp2_with fail
    refine (n_any B g _ HT.out.src 3 (by omega) (by omega)).mono ?_
    rintro e w10 ⟨x,rfl,x0,x1,hs,hg⟩
    have HX:=Lh (And.intro x0 x1)
    have HT3:=Lh (HT.out.turn hs hg)
    have hwx:IntKind.i64.wrap (65536 - x)=65536 - x:=IntWalk.i64_in _ (by omega)
    have HT4:=Lh (HT3.out.put (HT3.out.kb.p7 (65536 - x)))
    clear hs hg x0 x1 HT
    obtain ⟨k0,k1,k2,k3,k4,k5,k6,k7⟩:=HT3.out.kb.k
    obtain ⟨f0,f1,f2,f3,f4,f5,f6,f7⟩:=HT3.out.kb.free
    have kl:=HT3.out.kb.lt
    go_upto_region 10 with (fail)
    clear k0 k1 k2 k3 k4 k5 k6 k7 kl f0 f1 f2 f3 f4 f5 f6 f7 HT3 hwx
    generalize w10.setCell ⟨k,7,none⟩ (.int .i64 (65536 - x))=w11 at*
    have HF:=Lh (HT4.out.out (by have h1:=HOK.out;have h2:=HM.out;unfold Su.Ok;dsimp only;have h3:=HX.out;omega))
    obtain ⟨k0,k1,k2,k3,k4,k5,k6,k7⟩:=HT4.out.kb.k
    obtain ⟨r0,r1,r2,r3,r4,r5,r6,r7⟩:=HT4.out.rb.k
    obtain ⟨f0,f1,f2,f3,f4,f5,f6,f7⟩:=HT4.out.rb.free
    have kl:=HT4.out.kb.lt
    have rl:=HT4.out.rb.lt
    have hkr:¬k=r:=by omega
    have hrk2:¬r=k:=by omega
    dsimp only at k0 k1 k2 k3 k4 k5 k6 k7
    clear hrk
    go_wp2
    exact bodyPost_ret (v:=(⟨a,m,b,c,d,0,1,65536 - x⟩:Su).v) (by simp only [results,Tryz.results7];go_simp <;> rfl) rfl HF.out
   ·have HF:=Lh (HT.out.out (by have h1:=HOK.out;have h2:=HM.out;unfold Su.Ok;dsimp only;  omega))
    obtain ⟨k0,k1,k2,k3,k4,k5,k6,k7⟩:=HT.out.kb.k
    obtain ⟨r0,r1,r2,r3,r4,r5,r6,r7⟩:=HT.out.rb.k
    obtain ⟨f0,f1,f2,f3,f4,f5,f6,f7⟩:=HT.out.rb.free
    have kl:=HT.out.kb.lt
    have rl:=HT.out.rb.lt
    have hkr:¬k=r:=by omega
    have hrk2:¬r=k:=by omega
    dsimp only at k0 k1 k2 k3 k4 k5 k6 k7
    clear hrk
    go_wp2
    exact bodyPost_ret (v:=(⟨a,m,b,c,d,0,1,0⟩:Su).v) (by simp only [results,Tryz.results7];go_simp <;> rfl) rfl HF.out
theorem awithin_any (n lo hi:Int) (w:World):Calls Tryz.prog 39 #[.int .i64 n,.int .i64 lo,.int .i64 hi] w fun e w'=>e=.returned (.bool (wi n lo hi))/\w=w':=by
 by_cases h1:lo<=n
 ·by_cases h2:n<=hi
  ·have H:=Lh (wi_true h1 h2)
   go_enter Tryz.func39,Tryz.ntmps39
   go_wp2
   go_ret
   exact ⟨by rw [H.out];rfl,rfl⟩
  ·have H:=Lh (show wi n lo hi=false from decide_eq_false (fun h=>h2 h.2))
   go_enter Tryz.func39,Tryz.ntmps39
   go_wp2
   go_ret
   exact ⟨by rw [H.out];rfl,rfl⟩
 ·have H:=Lh (show wi n lo hi=false from decide_eq_false (fun h=>h1 h.1))
  go_enter Tryz.func39,Tryz.ntmps39
  go_wp2
  go_ret
  exact ⟨by rw [H.out];rfl,rfl⟩
def suB (s:Su):Bool:=(((((((wi s.sl 1 6&&wi s.lv 1 s.sl)&&wi s.cp 1 12)&&wi s.dd 1 24)&&wi s.lm 1 8)&&wi s.ck 0 1073741824)&&wi s.ni 1 1073741824)&&wi s.ep 0 65536)
theorem suB_ok (s:Su):suB s=decide s.Ok:=by
 unfold suB wi Su.Ok
 rw [Bool.eq_iff_iff]
 simp only [Bool.and_eq_true,decide_eq_true_eq,and_assoc]
theorem suB_iff {s:Su}:suB s=true↔s.Ok:=by rw [suB_ok,decide_eq_true_eq]
theorem isset_any (s:Su) (w:World):Calls Tryz.prog 20 #[s.v] w fun e w'=>e=.returned (.bool (suB s))/\Below w.heap.size w w':=by
 have HWI:=Lh (fun n lo hi W=>awithin_any n lo hi W)
 have HSB:=Lh (SuB.start w s 41)
 have HBL:=Lh ((Below.refl w.heap.size w).alloc (nLR _) (.cells #[.int .i64 s.sl,.int .i64 s.lv,.int .i64 s.cp,.int .i64 s.dd,.int .i64 s.lm,.int .i64 s.ck,.int .i64 s.ni,.int .i64 s.ep] 41))
 obtain ⟨p,hp⟩:∃ p,p=w.heap.size:=⟨_,rfl⟩
 have HPP:=Lh hp
 clear hp
 obtain ⟨b0,hb0⟩:∃ b,b=wi s.sl 1 6:=⟨_,rfl⟩
 have H0:=Lh hb0.symm
 clear hb0
 obtain ⟨b1,hb1⟩:∃ b,b=wi s.lv 1 s.sl:=⟨_,rfl⟩
 have H1:=Lh hb1.symm
 clear hb1
 obtain ⟨b2,hb2⟩:∃ b,b=wi s.cp 1 12:=⟨_,rfl⟩
 have H2:=Lh hb2.symm
 clear hb2
 obtain ⟨b3,hb3⟩:∃ b,b=wi s.dd 1 24:=⟨_,rfl⟩
 have H3:=Lh hb3.symm
 clear hb3
 obtain ⟨b4,hb4⟩:∃ b,b=wi s.lm 1 8:=⟨_,rfl⟩
 have H4:=Lh hb4.symm
 clear hb4
 obtain ⟨b5,hb5⟩:∃ b,b=wi s.ck 0 1073741824:=⟨_,rfl⟩
 have H5:=Lh hb5.symm
 clear hb5
 obtain ⟨b6,hb6⟩:∃ b,b=wi s.ni 1 1073741824:=⟨_,rfl⟩
 have H6:=Lh hb6.symm
 clear hb6
 obtain ⟨b7,hb7⟩:∃ b,b=wi s.ep 0 65536:=⟨_,rfl⟩
 have H7:=Lh hb7.symm
 clear hb7
 have HSU:=Lh (show suB s=(((((((b0&&b1)&&b2)&&b3)&&b4)&&b5)&&b6)&&b7) from by unfold suB;rw [H0.out,H1.out,H2.out,H3.out,H4.out,H5.out,H6.out,H7.out])
 go_enter Tryz.func20,Tryz.ntmps20
 go_wp2_with fail
 rw [<-HPP.out] at HSB ⊢
 generalize w.alloc (.cells #[.int .i64 s.sl,.int .i64 s.lv,.int .i64 s.cp,.int .i64 s.dd,.int .i64 s.lm,.int .i64 s.ck,.int .i64 s.ni,.int .i64 s.ep] 41)=w0 at*
 obtain ⟨k0,k1,k2,k3,k4,k5,k6,k7⟩:=HSB.out.k
 have kl:=HSB.out.lt
 go_wp2_with fail
 refine (HWI.out _ _ _ _).mono ?_
 rintro e w1 ⟨rfl,rfl⟩
 rw [H0.out]
 cases b0 with
 | false=>
  go_wp2
  go_ret
  exact ⟨by rw [HSU.out];simp,HBL.out⟩
 | true=>
  go_wp2_with fail
  refine (HWI.out _ _ _ _).mono ?_
  rintro e w1 ⟨rfl,rfl⟩
  rw [H1.out]
  cases b1 with
  | false=>
   go_wp2
   go_ret
   exact ⟨by rw [HSU.out];simp,HBL.out⟩
  | true=>
   go_wp2_with fail
   refine (HWI.out _ _ _ _).mono ?_
   rintro e w1 ⟨rfl,rfl⟩
   rw [H2.out]
   cases b2 with
   | false=>
    go_wp2
    go_ret
    exact ⟨by rw [HSU.out];simp,HBL.out⟩
   | true=>
    go_wp2_with fail
    refine (HWI.out _ _ _ _).mono ?_
    rintro e w1 ⟨rfl,rfl⟩
    rw [H3.out]
    cases b3 with
    | false=>
     go_wp2
     go_ret
     exact ⟨by rw [HSU.out];simp,HBL.out⟩
    | true=>
     go_wp2_with fail
     refine (HWI.out _ _ _ _).mono ?_
     rintro e w1 ⟨rfl,rfl⟩
     rw [H4.out]
     cases b4 with
     | false=>
      go_wp2
      go_ret
      exact ⟨by rw [HSU.out];simp,HBL.out⟩
     | true=>
      go_wp2_with fail
      refine (HWI.out _ _ _ _).mono ?_
      rintro e w1 ⟨rfl,rfl⟩
      rw [H5.out]
      cases b5 with
      | false=>
       go_wp2
       go_ret
       exact ⟨by rw [HSU.out];simp,HBL.out⟩
      | true=>
       go_wp2_with fail
       refine (HWI.out _ _ _ _).mono ?_
       rintro e w1 ⟨rfl,rfl⟩
       rw [H6.out]
       cases b6 with
       | false=>
        go_wp2
        go_ret
        exact ⟨by rw [HSU.out];simp,HBL.out⟩
       | true=>
        go_wp2_with fail
        refine (HWI.out _ _ _ _).mono ?_
        rintro e w1 ⟨rfl,rfl⟩
        rw [H7.out]
        cases b7 with
        | false=>
         go_wp2
         go_ret
         exact ⟨by rw [HSU.out];simp,HBL.out⟩
        | true=>
         go_wp2
         go_ret
         exact ⟨by rw [HSU.out];rfl,HBL.out⟩
theorem ywithin_any (n lo hi:Int) (w:World):Calls Tryz.prog 142 #[.int .i64 n,.int .i64 lo,.int .i64 hi] w fun e w'=>e=.returned (.bool (wi n lo hi))/\w=w':=by
 by_cases h1:lo<=n
 ·by_cases h2:n<=hi
  ·have H:=Lh (wi_true h1 h2)
   go_enter Tryz.func142,Tryz.ntmps142
   go_wp2
   go_ret
   exact ⟨by rw [H.out];rfl,rfl⟩
  ·have H:=Lh (show wi n lo hi=false from decide_eq_false (fun h=>h2 h.2))
   go_enter Tryz.func142,Tryz.ntmps142
   go_wp2
   go_ret
   exact ⟨by rw [H.out];rfl,rfl⟩
 ·have H:=Lh (show wi n lo hi=false from decide_eq_false (fun h=>h1 h.1))
  go_enter Tryz.func142,Tryz.ntmps142
  go_wp2
  go_ret
  exact ⟨by rw [H.out];rfl,rfl⟩
theorem ynumber_any (n:Int) (w:World):Calls Tryz.prog 132 #[.int .i64 n] w fun e w'=>e=.returned (.bool (nbB n))/\w=w':=by
 have HC:=Lh (fun w=>ywithin_any n 0 1099511627776 w)
 have HE:=Lh (show wi n 0 1099511627776=nbB n from rfl)
 rw [HE.out] at HC
 clear HE
 generalize nbB n=b at*
 go_enter Tryz.func132,Tryz.ntmps132
 go_wp2_with fail
 refine (HC.out _).mono ?_
 rintro e w1 ⟨rfl,rfl⟩
 go_wp2
 go_ret
 exact ⟨rfl,rfl⟩
theorem yodd_any (n:Int) (w:World):Calls Tryz.prog 133 #[.int .i64 n] w fun e w'=>e=.returned (.bool (!evB n))/\w=w':=by
 have H:=Lh (evB_not n)
 go_enter Tryz.func133,Tryz.ntmps133
 go_wp2
 go_ret
 exact ⟨by rw [<-H.out];rfl,rfl⟩
def StE (w:World) (T:St) (x:Int) (e:Ending) (w' : World):Prop:=e=.returned (.tuple #[T.v,.int .i64 x])/\Below w.heap.size w w'
theorem below4 {w W:World} {B r:Nat} (h:Below B w W) (hr:B<=r) (a b c d:Value):Below B w ((((W.setCell ⟨r,0,none⟩ a).setCell ⟨r,1,none⟩ b).setCell ⟨r,2,none⟩ c).setCell ⟨r,3,none⟩ d):=
 (((h.setCell (p:=⟨r,0,none⟩) hr _).setCell (p:=⟨r,1,none⟩) hr _).setCell (p:=⟨r,2,none⟩) hr _).setCell (p:=⟨r,3,none⟩) hr _
theorem below2 (w:World) (x y:Obj):Below w.heap.size w ((w.alloc x).alloc y):=((Below.refl _ _).alloc (nLR _) x).alloc (by simp) y
noncomputable def ctB (S:Sh) (ep lim:Int):Bool:=decide (exS S (wi ep 0 65536&&wi lim 1 8)=0)
noncomputable def ctR (S:Sh) (ep lim:Int):Int:=if ctB S ep lim=true then (((lsF S.cs S.hd S.sz).countP (fun M=>!puF M ep&&!spF M lim):Nat):Int) else 0
noncomputable def ctL (S:Sh) (ep lim:Int):Int:=if ctB S ep lim=true then (((S.l.map Le.m).countP (fun M=>!puF M ep):Nat):Int) else 0
theorem ct_no {S:Sh} {ep lim:Int} (h:ctB S ep lim=false):ctR S ep lim=0/\ctL S ep lim=0:=by unfold ctR ctL;rw [h];exact ⟨rfl,rfl⟩
theorem ct_yes {S:Sh} {ep lim:Int} (h:ctB S ep lim=true):ctR S ep lim=(((lsF S.cs S.hd S.sz).countP (fun M=>!puF M ep&&!spF M lim):Nat):Int)/\ctL S ep lim=(((S.l.map Le.m).countP (fun M=>!puF M ep):Nat):Int):=by unfold ctR ctL;rw [h];exact ⟨rfl,rfl⟩
theorem cnt_succ {p:Msg->Bool} {l:List Msg} {k:Nat} (h:k<l.length):(l.take (k+1)).countP p=(l.take k).countP p+(if p l[k]=true then 1 else 0):=by
 rw [<-List.take_append_getElem h,List.countP_append];simp [List.countP_cons]
theorem cnt_le (p:Msg->Bool) (l:List Msg) (k:Nat):(l.take k).countP p<=l.length:=Nat.le_trans (List.countP_le_length ..) (by simp;omega)
structure CtAt (w:World) (p:Nat) (S:Sh) (D:Sx) (v v' : Value) (L L' : List Msg) (W:World):Prop where
 sa:SAt w p S D W
 ls:Ls W W.heap.size v L
 ls' : Ls W W.heap.size v' L'
theorem CtAt.below {w W W' : World} {p:Nat} {S:Sh} {D:Sx} {v v' : Value} {L L' : List Msg} (h:CtAt w p S D v v' L L' W) (hb:Below W.heap.size W W'):CtAt w p S D v v' L L' W':=⟨h.sa.below hb,h.ls.upz hb,h.ls'.upz hb⟩
theorem scounts_any (S:Sh) (D:Sx) (ep lim:Int) (w:World) (hs:SR w w.heap.size S D) :
  Calls Tryz.prog 125 #[sv S D,.int .i64 ep,.int .i64 lim] w fun e w'=>e=.returned (.tuple #[.int .i64 (ctR S ep lim),.int .i64 (ctL S ep lim)])/\Below w.heap.size w w':=by
 have H0:=Lh (SAt.start 72 hs)
 have HV:=Lh (fun A c p W (k:SAt w p S D W) (hn:Nl W W.heap.size (.slice A 2 c) [⟨ep,0,65536⟩,⟨lim,1,8⟩])=>sexam_any S D A 2 c [⟨ep,0,65536⟩,⟨lim,1,8⟩] W k.sr hn)
 have HE:([⟨ep,0,65536⟩,⟨lim,1,8⟩]:List Rn).all Rn.ok=(wi ep 0 65536&&wi lim 1 8):=by simp [Rn.ok]
 rw [HE] at HV
 clear HE hs
 have HP:=Lh (fun W=>aepoch_any ep W)
 have HT:=Lh (fun W=>alimit_any lim W)
 go_enter Tryz.func125,Tryz.ntmps125
 obtain ⟨t0,t1,t2,t3,t4,t5,t6,t7,tl⟩:=H0.out.s8.facts
 go_upto_region 1 with (fail)
 clear t0 t1 t2 t3 t4 t5 t6 t7 tl
 obtain ⟨p,hp⟩:∃ p,p=w.heap.size:=⟨_,rfl⟩
 rw [<-hp]
 rw [<-hp] at H0
 clear hp
 generalize w.alloc (.cells #[.bool S.lv,.int .i64 S.lo,.int .i64 S.hi,.slice D.A S.cs.length D.c,.int .i64 S.hd,.int .i64 S.sz,.slice D.A2 S.l.length D.c2,.slice D.A3 S.h.length D.c3] 72)=w1 at*
 have HD:=Lh H0.out.drew
 have HT0:=Lh (show K8 p S D w1.drew from HD.out.k8)
 go_region_held3 (fun W=>K8 p S D W)
  (first | with_reducible exact HT0.out | with_reducible exact HT1.out | with_reducible exact HT2.out | with_reducible exact HT3.out | with_reducible exact HT4.out)
  (first
  | (go_at_call 144;(with_reducible refine (HP.out _).mono ?_);rintro e w3 ⟨rfl,hb⟩;have HA1:=Lh (HD.out.below hb);have HT1:=Lh HA1.out.k8;clear hb)
  | (go_at_call 145;(with_reducible refine (HT.out _).mono ?_);rintro e w4 ⟨rfl,hb⟩;have HA2:=Lh (HA1.out.below hb);have HT2:=Lh HA2.out.k8;have HA3:=Lh (HA2.out.alloc (.cells #[.int .i64 ep,.int .i64 0,.int .i64 65536,.int .i64 lim,.int .i64 1,.int .i64 8] 209));have HT3:=Lh HA3.out.k8;have HNL:=Lh (nl_two w4 ⟨ep,0,65536⟩ ⟨lim,1,8⟩ 209);clear hb)
  | (go_at_call 143;(with_reducible refine (HV.out _ _ _ _ HA3.out ?_).mono ?_);(have:=HNL.out;simpa using this);rintro e w5 ⟨rfl,hb⟩;have HA4:=Lh (HA3.out.below hb);have HT4:=Lh HA4.out.k8;clear hb))
 clear H0 HD HT0 HA1 HT1 HA2 HT2 HA3 HT3 HNL HT4 HT HP HV
 by_cases h1:exS S (wi ep 0 65536&&wi lim 1 8)=0
 ·have HX:=Lh (ct_yes (S:=S) (ep:=ep) (lim:=lim) (by unfold ctB;rw [h1];rfl))
  have hn:=ex_nums (show exS S true=0 by obtain ⟨a,b,-⟩:=exS_zero h1;exact exS_ok a b rfl)
  rw [h1]
  have HRE:=Lh (fun W (q:SAt w p S D W)=>glist_any D.A S.cs.length D.c S.cs S.hd S.sz W q.sr.ls)
  have HN1:=Lh (show (lsF S.cs S.hd S.sz).length<=1000 from Nat.le_trans (lsF_le _ _ _) (by omega))
  have HN2:=Lh (show S.l.length<=1000 by omega)
  generalize lsF S.cs S.hd S.sz=L at*
  clear h1 hn
  obtain ⟨t0,t1,t2,t3,t4,t5,t6,t7,tl⟩:=HA4.out.s8.facts
  go_wp2_with fail
  clear t0 t1 t2 t3 t4 t5 t6 t7 tl
  refine (HRE.out _ HA4.out).mono ?_
  rintro e w6 ⟨v4,rfl,-,hl,hb⟩
  obtain ⟨A4,c4,rfl,_,_⟩:=hl.form
  have HC:=Lh (CtAt.mk (HA4.out.below hb) hl Ls.nil)
  clear hl hb HA4
  obtain ⟨t0,t1,t2,t3,t4,t5,t6,t7,tl⟩:=HC.out.sa.s8.facts
  go_wp2
  clear t0 t1 t2 t3 t4 t5 t6 t7 tl HRE
  have HPU:=Lh (fun M W=>purged_any M ep W)
  have HSP:=Lh (fun M W=>spent_any M lim W)
  have HF1:=Lh (fun M=>show (fun M=>!puF M ep&&!spF M lim) M=(!puF M ep&&!spF M lim) from rfl)
  have HF2:=Lh (fun M=>show (fun M=>!puF M ep) M=(!puF M ep) from rfl)
  generalize (fun M=>!puF M ep&&!spF M lim)=f1 at*
  generalize (fun M=>!puF M ep)=f2 at*
  have hl1:L.length<=9223372036854775807:=by have:=HN1.out;omega
  have HT1:=Lh (show L.countP f1=(L.take L.length).countP f1 by rw [List.take_length])
  go_loopw [6,24] (fun n i wr=>∃ k:Nat,k<=L.length/\i=.int .i64 k/\n=.int .i64 (((L.take k).countP f1:Nat):Int)/\Hid (CtAt w p S D (.slice A4 L.length c4) (.slice none 0 0) L [] wr)) (fun _ i _=>L.length - (intOf i).toNat)
  case atStart=>exact ⟨0,Nat.zero_le _,rfl,rfl,HC⟩
  case round=>
   obtain ⟨k,hk,rfl,rfl,H6⟩:=hrel
   clear HC
   by_cases hlt:k<L.length
   ·have HSU:=Lh (cnt_succ (p:=f1) hlt)
    have hcl:=Nat.le_trans (cnt_le f1 L k) HN1.out
    obtain ⟨b,o,rfl,hbl,x0,x1,x2,x3,x4,x5,x6⟩:=H6.out.ls.at_ hlt
    have HFX:=Lh (HF1.out L[k])
    generalize hmm:(L.take (k+1)).countP f1=m' at*
    have HMM:=Lh hmm
    clear hmm
    generalize (L.take k).countP f1=m at*
    generalize L[k]=X at*
    have hw:IntKind.i64.wrap ((m:Int)+1)=(m:Int)+1:=IntWalk.i64_in _ (by omega)
    have HP:=Lh (HPU.out X)
    have HS:=Lh (HSP.out X)
    have HPA:=Lh (H6.out.below ((Below.refl _ _).alloc (nLR _) (.cells #[.int .i64 X.id,.int .i64 X.rt,.int .i64 X.ep,.int .i64 X.ct,.int .i64 X.gn,.int .i64 X.st,.string X.bd] 79)))
    have HMX:=Lh (MBx.start wr X 79)
    cases hp:puF X ep with
    | true=>
     rw [hp] at HP
     have HM:=Lh (show m' = m by rw [HSU.out,HFX.out,hp];simp)
     clear hp
     go_wp2_with fail
     refine (HP.out _).mono ?_
     rintro e w6 ⟨rfl,hb⟩
     have H7:=Lh (HPA.out.below hb)
     clear hb x0 x1 x2 x3 x4 x5 x6 hbl
     go_wp2
     go_roundw
     case rel=>exact ⟨k+1,by omega,by go_num,by rw [HMM.out,HM.out],H7⟩
     case measure=>simp [intOf];omega
    | false=>
     rw [hp] at HP
     go_wp2_with fail
     refine (HP.out _).mono ?_
     rintro e w6 ⟨rfl,hb⟩
     have H7:=Lh (HPA.out.below hb)
     have HM7:=Lh (HMX.out.up hb)
     clear hb x0 x1 x2 x3 x4 x5 x6 hbl
     obtain ⟨⟨x0,x1,x2,x3,x4,x5,x6⟩,-,hbl⟩:=HM7.out
     generalize wr.heap.size=q at*
     cases hq:spF X lim with
     | true=>
      rw [hq] at HS
      have HM:=Lh (show m' = m by rw [HSU.out,HFX.out,hp,hq];simp)
      clear hp hq
      go_wp2_with fail
      refine (HS.out _).mono ?_
      rintro e w7 ⟨rfl,hb⟩
      have H8:=Lh (H7.out.below hb)
      clear hb x0 x1 x2 x3 x4 x5 x6 hbl
      go_wp2
      go_roundw
      case rel=>exact ⟨k+1,by omega,by go_num,by rw [HMM.out,HM.out],H8⟩
      case measure=>simp [intOf];omega
     | false=>
      rw [hq] at HS
      have HM:=Lh (show m' = m+1 by rw [HSU.out,HFX.out,hp,hq];simp)
      clear hp hq
      go_wp2_with fail
      refine (HS.out _).mono ?_
      rintro e w7 ⟨rfl,hb⟩
      have H8:=Lh (H7.out.below hb)
      clear hb x0 x1 x2 x3 x4 x5 x6 hbl
      go_wp2
      go_roundw
      case rel=>exact ⟨k+1,by omega,by go_num,by rw [HMM.out,HM.out];go_num,H8⟩
      case measure=>simp [intOf];omega
   ·obtain rfl:k=L.length:=by omega
    rw [<-HT1.out]
    generalize L.countP f1=m1 at*
    have HE:=Lh H6.out.sa.sr.el
    obtain ⟨t0,t1,t2,t3,t4,t5,t6,t7,tl⟩:=H6.out.sa.s8.facts
    generalize D.A2=A2 at*
    generalize D.c2=c2 at*
    go_wp2
    clear t0 t1 t2 t3 t4 t5 t6 t7 tl HSP HF1
    have HQ:=Lh (And.intro H6.out.sa HE.out)
    have hl2:S.l.length<=9223372036854775807:=by have:=HN2.out;omega
    have HT2:=Lh (show (S.l.map Le.m).countP f2=((S.l.map Le.m).take S.l.length).countP f2 by rw [show S.l.length=(S.l.map Le.m).length by simp,List.take_length])
    go_loopw [7,45] (fun n i wr=>∃ k:Nat,k<=S.l.length/\i=.int .i64 k/\n=.int .i64 ((((S.l.map Le.m).take k).countP f2:Nat):Int)/\Hid (SAt w p S D wr/\El wr wr.heap.size (.slice A2 S.l.length c2) S.l)) (fun _ i _=>S.l.length - (intOf i).toNat)
    case atStart=>exact ⟨0,Nat.zero_le _,rfl,rfl,HQ⟩
    case round=>
     clear H6 HE HQ
     obtain ⟨k,hk',rfl,rfl,H6⟩:=hrel
     by_cases hlt' : k<S.l.length
     ·have hlm:k<(S.l.map Le.m).length:=by simpa using hlt'
      have HSU:=Lh (cnt_succ (p:=f2) hlm)
      have hcl:((S.l.map Le.m).take k).countP f2<=1000:=Nat.le_trans (cnt_le f2 _ k) (by simpa using HN2.out)
      obtain ⟨b,o,rfl,hbl,x0,x1,x2,x3,x4,x5,x6,x7⟩:=H6.out.2.at_ hlt'
      have HFX:=Lh (HF2.out S.l[k].m)
      have HGM:=Lh (show (S.l.map Le.m)[k]'hlm=S.l[k].m by simp)
      generalize hmm:((S.l.map Le.m).take (k+1)).countP f2=m' at*
      have HMM:=Lh hmm
      clear hmm
      generalize ((S.l.map Le.m).take k).countP f2=m at*
      generalize (S.l.map Le.m)[k]'hlm=Y at*
      generalize S.l[k]=X at*
      have hw:IntKind.i64.wrap ((m:Int)+1)=(m:Int)+1:=IntWalk.i64_in _ (by omega)
      have HP:=Lh (HPU.out X.m)
      have HBA:=Lh ((Below.refl wr.heap.size wr).alloc (nLR _) (.cells #[.int .i64 X.m.id,.int .i64 X.m.rt,.int .i64 X.m.ep,.int .i64 X.m.ct,.int .i64 X.m.gn,.int .i64 X.m.st,.string X.m.bd,.int .i64 X.dl] 152))
      cases hp:puF X.m ep with
      | true=>
       rw [hp] at HP
       have HM:=Lh (show m' = m by rw [HSU.out,HGM.out,HFX.out,hp];simp)
       clear hp
       go_wp2_with fail
       refine (HP.out _).mono ?_
       rintro e w6 ⟨rfl,hb⟩
       have HBB:=HBA.out.trans (hb.mono HBA.out.size)
       have H7:=Lh (And.intro (H6.out.1.below HBB) ((H6.out.2.below HBB).more HBB.size))
       clear hb x0 x1 x2 x3 x4 x5 x6 x7 hbl HBB
       go_wp2
       go_roundw
       case rel=>exact ⟨k+1,by omega,by go_num,by rw [HMM.out,HM.out],H7⟩
       case measure=>simp [intOf];omega
      | false=>
       rw [hp] at HP
       have HM:=Lh (show m' = m+1 by rw [HSU.out,HGM.out,HFX.out,hp];simp)
       clear hp
       go_wp2_with fail
       refine (HP.out _).mono ?_
       rintro e w6 ⟨rfl,hb⟩
       have HBB:=HBA.out.trans (hb.mono HBA.out.size)
       have H7:=Lh (And.intro (H6.out.1.below HBB) ((H6.out.2.below HBB).more HBB.size))
       clear hb x0 x1 x2 x3 x4 x5 x6 x7 hbl HBB
       go_wp2
       go_roundw
       case rel=>exact ⟨k+1,by omega,by go_num,by rw [HMM.out,HM.out];go_num,H7⟩
       case measure=>simp [intOf];omega
     ·obtain rfl:k=S.l.length:=by omega
      rw [<-HT2.out]
      generalize (S.l.map Le.m).countP f2=m2 at*
      go_wp2
      exact bodyPost_ret (v:=.tuple #[.int .i64 m1,.int .i64 m2]) (by simp only [results,Tryz.results125];go_simp <;> rfl) rfl ⟨by rw [HX.out.1,HX.out.2],H6.out.1.bel⟩
 ·have HX:=Lh (ct_no (S:=S) (ep:=ep) (lim:=lim) (by unfold ctB;exact decide_eq_false h1))
  have hne:(exS S (wi ep 0 65536&&wi lim 1 8) != 0)=true:=bne_iff_ne.2 h1
  clear h1
  generalize exS S (wi ep 0 65536&&wi lim 1 8)=x at*
  go_wp2
  exact bodyPost_ret (v:=.tuple #[.int .i64 0,.int .i64 0]) (by simp only [results,Tryz.results125];go_simp <;> rfl) rfl ⟨by rw [HX.out.1,HX.out.2],HA4.out.bel⟩
end Go.Proofs.YtkecnihgjepfeaaGreat
