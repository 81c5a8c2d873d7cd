/- What is proved here: parts of the proof: Rrt Srm Srt Srg Rwi Rsa. -/
import Derived.Test.YtkecnihgjepfeaaGreatJ20
namespace Go.Proofs.YtkecnihgjepfeaaGreat
open Go.RowKit
set_option linter.unusedVariables false
set_option linter.unusedSimpArgs false
set_option maxHeartbeats 8000000
set_option maxRecDepth 20000
theorem rroute_no (id:Int) (w:World) (hb:id<0\/1073741824<id) :
  Calls Tryz.prog 37 #[.int .i64 id] w fun e w'=>e=.returned (.int .i64 0)/\Below w.heap.size w w':=by
 by_cases b0:id<0
 ·clear hb
  go_enter Tryz.func37,Tryz.ntmps37
  go_wp2
  go_ret
  exact ⟨rfl,Below.refl _ _⟩
 have b1:1073741824<id:=by omega
 clear hb
 go_enter Tryz.func37,Tryz.ntmps37
 go_wp2
 go_ret
 exact ⟨rfl,Below.refl _ _⟩
theorem rroute_yes (id:Int) (w:World) (h0:0<=id) (h1:id<=1073741824) :
  Calls Tryz.prog 37 #[.int .i64 id] w fun e w'=>e=.returned (.int .i64 (rtx (fnv (be 4 id.toNat))))/\Below w.heap.size w w':=by
 have HC:=Lh (rput_all none 0 0 [] id 4 w Bs.nil (by simp))
 have HP:=Lh (pt4 id h0 h1)
 have HL:=Lh (be_length 4 id.toNat)
 go_enter Tryz.func37,Tryz.ntmps37
 go_wp2_with fail
 refine HC.out.mono ?_
 rintro e w1 ⟨v1,rfl,hv,hb⟩
 obtain ⟨e0,e1⟩:=HP.out
 rw [e1] at hv
 rw [e0]
 obtain ⟨A1,c1,rfl,_,_,_⟩:=(show _ from hv)
 have HV:=Lh hv
 have HB:=Lh hb
 clear hv hb e0 e1
 go_wp2_with fail
 refine (rsum_any _ _ _ _ _ HV.out (by rw [HL.out];omega)).mono ?_
 rintro e w2 ⟨rfl,rfl⟩
 obtain ⟨h,hh⟩:∃ h,h=fnv (be 4 id.toNat):=⟨_,rfl⟩
 have h32:h<4294967296:=by rw [hh];exact fnv_lt _
 rw [<-hh]
 have hx:=rtx_bits h h32
 have ha:=and_ffff (h:Int)
 have h32' : (h:Int)<=4294967295:=by omega
 have HH:=Lh hh
 clear hh h32
 go_wp2
 go_ret
 exact ⟨by rw [<-HH.out];rfl,HB.out⟩
theorem rroute_any (id:Int) (w:World):Calls Tryz.prog 37 #[.int .i64 id] w fun e w'=>e=.returned (.int .i64 (rtF id))/\Below w.heap.size w w':=by
 by_cases h:0<=id/\id<=1073741824
 ·rw [show rtF id=(rtx (fnv (be 4 id.toNat)):Int) from if_pos h];exact rroute_yes id w h.1 h.2
 ·rw [show rtF id=0 from if_neg h];exact rroute_no id w (by omega)
def SrMsg (B g:Nat) (id lo hi:Int) (w:World) (e:Ending) (w' : World):Prop:=∃ M:Msg,e=.returned M.v/\M.id=id/\M.rt=intoF (rtF id) lo hi/\(0<=M.ep/\M.ep<=2)/\(0<=M.ct/\M.ct<=3)/\(M.ct<=M.gn/\M.gn<=65536)/\(0<=M.st/\M.st<=49)/\M.bd.size<=3/\SrcAt w' B g/\w.grownBy w' (some g)
theorem src7 {W:World} {B g b:Nat} (h:SrcAt W B g) (hne:b≠g) (hB:B<=b) (v0 v1 v2 v3 v4 v5 v6:Value):SrcAt (((((((W.setCell ⟨b,0,none⟩ v0).setCell ⟨b,1,none⟩ v1).setCell ⟨b,2,none⟩ v2).setCell ⟨b,3,none⟩ v3).setCell ⟨b,4,none⟩ v4).setCell ⟨b,5,none⟩ v5).setCell ⟨b,6,none⟩ v6) B g:=
 ((((((h.other (p:=⟨b,0,none⟩) hne hB _).other (p:=⟨b,1,none⟩) hne hB _).other (p:=⟨b,2,none⟩) hne hB _).other (p:=⟨b,3,none⟩) hne hB _).other (p:=⟨b,4,none⟩) hne hB _).other (p:=⟨b,5,none⟩) hne hB _).other (p:=⟨b,6,none⟩) hne hB _
theorem only7 {a W:World} {g b:Nat} (h:a.grownBy W (some g)) (hb:a.heap.size<=b) (v0 v1 v2 v3 v4 v5 v6:Value):a.grownBy (((((((W.setCell ⟨b,0,none⟩ v0).setCell ⟨b,1,none⟩ v1).setCell ⟨b,2,none⟩ v2).setCell ⟨b,3,none⟩ v3).setCell ⟨b,4,none⟩ v4).setCell ⟨b,5,none⟩ v5).setCell ⟨b,6,none⟩ v6) (some g):=
 only_set (only_set (only_set (only_set (only_set (only_set (only_set h (.inr hb) _) (.inr hb) _) (.inr hb) _) (.inr hb) _) (.inr hb) _) (.inr hb) _) (.inr hb) _
theorem message_any (B g:Nat) (w:World) (h:SrcAt w B g) (id lo hi:Int):Calls Tryz.prog 18 #[.pointer (some ⟨g,0,none⟩),.int .i64 id,.int .i64 lo,.int .i64 hi] w (SrMsg B g id lo hi w):=by
 have H:=Lh h
 have hr:=MAt.fresh (f:=fun _=>0) w 0 0 0 0 0 0 ByteArray.empty 79 rfl rfl rfl rfl rfl rfl
 obtain ⟨r,hrr⟩:∃ r,r=w.heap.size:=⟨_,rfl⟩
 rw [<-hrr] at hr
 have HR:=Lh hr
 have HRR:=Lh hrr
 have HBR:=Lh (show B<=r by have:=h.1;have:=h.2.1;omega)
 have HNR:=Lh (show r≠g by have:=h.2.1;omega)
 have HROUTE:=Lh (fun w=>rroute_any id w)
 have HF:=Lh (show rtF id=rtF id from rfl)
 clear h hr hrr
 go_enter Tryz.func18,Tryz.ntmps18
 go_wp2_with fail
 refine (HROUTE.out _).mono ?_
 rintro e w1 ⟨rfl,hb⟩
 have HS1:=Lh ((H.out.alloc _).below hb)
 have HR1:=Lh (HR.out.below hb (by rw [HRR.out];simp))
 have HG1:=Lh (only_below (only_alloc (World.grownBy.refl w (some g)) _) hb)
 clear hb
 go_wp2_with fail
 refine (rinto_any _ _ _ _).mono ?_
 rintro e w2 ⟨rfl,rfl⟩
 generalize hrt:intoF (rtF id) lo hi=rt
 have HRT:=Lh hrt
 clear hrt
 go_wp2_with fail
 refine (n_any B g _ HS1.out 3 (by omega) (by omega)).mono ?_
 rintro e w2 ⟨ep,rfl,e1,e2,hs,hg⟩
 have HS2:=Lh hs
 have HR2:=Lh (HR1.out.grown hg HNR.out)
 have HG2:=Lh (HG1.out.trans hg)
 clear hs hg
 go_wp2_with fail
 refine (n_any B g _ HS2.out 4 (by omega) (by omega)).mono ?_
 rintro e w3 ⟨ct,rfl,c1',c2',hs,hg⟩
 have HS3:=Lh hs
 have HR3:=Lh (HR2.out.grown hg HNR.out)
 have HG3:=Lh (HG2.out.trans hg)
 clear hs hg
 go_wp2_with fail
 refine (n_any B g _ HS3.out 50 (by omega) (by omega)).mono ?_
 rintro e w4 ⟨st,rfl,s1,s2,hs,hg⟩
 have HS4:=Lh hs
 have HR4:=Lh (HR3.out.grown hg HNR.out)
 have HG4:=Lh (HG3.out.trans hg)
 clear hs hg
 go_wp2_with fail
 refine (body_any B g _ HS4.out).mono ?_
 rintro e w5 ⟨bd,rfl,b1,hs,hg⟩
 have HS5:=Lh hs
 have HR5:=Lh (HR4.out.grown hg HNR.out)
 have HG5:=Lh (HG4.out.trans hg)
 have hk:=MAt.fresh (f:=fun | 0=>id | 1=>rt | 2=>ep | 3=>ct | 4=>0 | _=>st) w5 id rt ep ct 0 st bd 79 rfl rfl rfl rfl rfl rfl
 have HNK:=Lh (show w5.heap.size≠g by have:=hs.2.1;omega)
 have HGW:=Lh (show w.heap.size<=w5.heap.size from HG5.out.size)
 generalize hkk:w5.heap.size=k at hk HNK HGW
 have HK:=Lh hk
 have HB1:=Lh b1
 clear hs hg hk b1
 have hS5:=HS5.out.alloc (.cells #[.int .i64 id,.int .i64 rt,.int .i64 ep,.int .i64 ct,.int .i64 0,.int .i64 st,.string bd] 79)
 have hR5:=HR5.out.alloc (.cells #[.int .i64 id,.int .i64 rt,.int .i64 ep,.int .i64 ct,.int .i64 0,.int .i64 st,.string bd] 79)
 have hG5:=only_alloc HG5.out (.cells #[.int .i64 id,.int .i64 rt,.int .i64 ep,.int .i64 ct,.int .i64 0,.int .i64 st,.string bd] 79)
 have HRQ:=Lh HR5.out.1
 have HSQ:=HS5
 have HS5:=Lh hS5
 have HR5:=Lh hR5
 have HG5:=Lh hG5
 clear hS5 hR5 hG5
 go_wp2_with fail
 have HKK:=Lh hkk
 have HRK:=Lh (show r≠k by have:=HRQ.out;omega)
 have HBK:=Lh (show B<=k by have:=HSQ.out.1;have:=HSQ.out.2.1;omega)
 clear hkk
 generalize w5.alloc (.cells #[.int .i64 id,.int .i64 rt,.int .i64 ep,.int .i64 ct,.int .i64 0,.int .i64 st,.string bd] 79)=W at*
 have hl:=HK.out.2.1 3 (by omega)
 go_region_with ((go_at_call 11;refine (n_any B g _ (SrcAt.drew HS5.out) 3 (by omega) (by omega)).mono ?_;rintro e w7 ⟨x,rfl,x1,x2,hs,hg⟩;have HS7:=Lh hs;have HG7:=Lh (HG5.out.trans (gdrew hg));have HK7:=Lh (HK.out.grown (gdrew hg) HNK.out);have HR7:=Lh (HR5.out.grown (gdrew hg) HNR.out);have g3:=HK7.out.2.1 3 (by omega);have g4:=HK7.out.2.1 4 (by omega);have g5:=HK7.out.2.2.2 4 (by omega);have hwx:IntKind.i64.wrap (ct+x)=ct+x:=IntWalk.i64_in _ (by omega);clear hs hg))
 all_goals
  obtain ⟨gn,hgn⟩:∃ gn,gn=ct+x:=⟨_,rfl⟩
  rw [<-hgn]
  have q1:ct<=gn:=by omega
  have q2:gn<=65536:=by omega
  have HS8:=Lh (HS7.out.other (p:=⟨k,4,none⟩) HNK.out HBK.out (.int .i64 gn))
  have HR8:=Lh (HR7.out.other (p:=⟨k,4,none⟩) (fun e=>HRK.out e.symm) (.int .i64 gn))
  have HK8:=Lh (HK7.out.put 4 (by omega) gn)
  have HG8:=Lh (only_set HG7.out (p:=⟨k,4,none⟩) (.inr HGW.out) (.int .i64 gn))
  clear g3 g4 g5 hwx hgn x1 x2 hl
  rw [<-HRR.out]
  go_wp2_with fail
  refine (n_any B g _ HS8.out 20 (by omega) (by omega)).mono ?_
  rintro e w9 ⟨y,rfl,y1,y2,hs,hg⟩
  have HS9:=Lh hs
  have HG9:=Lh (HG8.out.trans hg)
  have HK9:=Lh (HK8.out.grown hg HNK.out)
  have HR9:=Lh (HR8.out.grown hg HNR.out)
  obtain ⟨⟨a0,a1,a2,a3,a4,a5,a6⟩,b0,b1,b2,b3,b4,b5,b6⟩:=HK9.out.facts
  obtain ⟨⟨c0,c1,c2,c3,c4,c5,c6⟩,d0,d1,d2,d3,d4,d5,d6⟩:=HR9.out.facts
  have hrk:=HRK.out
  have hkr:k≠r:=fun e=>hrk e.symm
  simp at a0 a1 a2 a3 a4 a5
  clear hs hg
  by_cases hy:y=19
  ·subst hy
   go_wp2
   exact bodyPost_ret (v:=Msg.v ⟨id,rt,ep,ct,65536,st,bd⟩) (by simp only [results,Tryz.results18];go_simp <;> rfl) rfl ⟨_,rfl,rfl,by rw [HRT.out],⟨e1,e2⟩,⟨c1',c2'⟩,⟨by show ct<=65536;omega,by show (65536:Int)<=65536;omega⟩,⟨s1,s2⟩,HB1.out,src7 (HS9.out.other (p:=⟨k,4,none⟩) HNK.out HBK.out _) HNR.out HBR.out _ _ _ _ _ _ _,only7 (only_set HG9.out (p:=⟨k,4,none⟩) (.inr HGW.out) _) (by rw [HRR.out];exact nLR _) _ _ _ _ _ _ _⟩
  ·have hy' : (y==19)=false:=beq_eq_false_iff_ne.2 hy
   go_wp2
   exact bodyPost_ret (v:=Msg.v ⟨id,rt,ep,ct,gn,st,bd⟩) (by simp only [results,Tryz.results18];go_simp <;> rfl) rfl ⟨_,rfl,rfl,by rw [HRT.out],⟨e1,e2⟩,⟨c1',c2'⟩,⟨q1,q2⟩,⟨s1,s2⟩,HB1.out,src7 HS9.out HNR.out HBR.out _ _ _ _ _ _ _,only7 HG9.out (by rw [HRR.out];exact nLR _) _ _ _ _ _ _ _⟩
structure TaAt (w:World) (B g r y:Nat) (A:Option Addr) (c:Nat) (l:List Le) (A2:Option Addr) (c2:Nat) (h:List Du) (W:World):Prop where
 rs:RT W r none 0 0 none 0 0
 rb:RT W y A l.length c A2 h.length c2
 el:El W W.heap.size (.slice A l.length c) l
 dl:Dl W W.heap.size (.slice A2 h.length c2) h
 src:SrcAt W B g
 grow:w.grownBy W (some g)
 nw:Nw (y+1) A/\Nw (y+1) A2
 ne:g<w.heap.size/\w.heap.size<=r/\r<y
section
variable {w W W' : World} {B g r y c c2:Nat} {A A2:Option Addr} {l:List Le} {h:List Du}
end
def Off (b:Nat) (A:Option Addr):Prop:=∀ a,A=some a->a.block≠b
structure WiAt (w:World) (r z y:Nat) (n:Nat) (hd sz:Int) (f:Nat->Msg) (W:World):Prop where
 rs:RB W r none 0 0 0 0
 row:MRow W z n f
 rb:RB W y (some ⟨z,0,none⟩) n n hd sz
 bel:Below w.heap.size w W
 old:w.heap.size<=r/\r<z/\z<y
section
variable {w W W' : World} {r z y n:Nat} {hd sz:Int} {f:Nat->Msg}
end
attribute [local go_sem ↓] Go.wp_at_zero Go.wp_at_succ
theorem rsame_yes (A A' : Option Addr) (n n' c c' : Nat) (l:List Msg) (w:World) (B B' : Nat) (hv:Ls w B (.slice A n c) l) (hv' : Ls w B' (.slice A' n' c') l) :
  Calls Tryz.prog 19 #[.slice A n c,.slice A' n' c'] w fun e w'=>e=.returned (.bool true)/\Below w.heap.size w w':=by
 obtain ⟨rfl,hm1,hm2⟩:=hv.len
 obtain ⟨rfl,hm1',hm2'⟩:=hv'.len
 have hL:l.length<=9223372036854775807:=by unfold maxLen at hm2;omega
 have HV:=Lh hv
 have HV':=Lh hv'
 have HB:=Lh (Below.refl w.heap.size w)
 clear hv hm1 hm2 hv' hm1' hm2'
 go_enter Tryz.func19,Tryz.ntmps19
 go_wp2
 go_loopw [5] (fun i wr=>∃ k:Nat,k<=l.length/\i=.int .i64 k/\Ls wr B (.slice A l.length c) l/\Ls wr B' (.slice A' l.length c') l/\Below w.heap.size w wr) (fun i _=>l.length - (intOf i).toNat)
 case atStart=>exact ⟨0,by omega,rfl,HV.out,HV'.out,HB.out⟩
 case round=>
  obtain ⟨k,hk,rfl,hv,hv',hb⟩:=hrel
  have HV:=Lh hv
  have HV':=Lh hv'
  have HB:=Lh hb
  clear hv hv' hb
  by_cases hlt:k<l.length
  ·obtain ⟨b,o,rfl,hb,hc⟩:=HV.out.at_ hlt
   obtain ⟨b',o',rfl,hb',hc'⟩:=HV'.out.at_ hlt
   generalize l[k]=M at*
   have hne:=neqm M
   obtain ⟨c0,c1,c2,c3,c4,c5,c6⟩:=hc
   obtain ⟨d0,d1,d2,d3,d4,d5,d6⟩:=hc'
   go_wp2
   go_quiet (fail)
   go_wp2
   go_roundw
   case rel=>exact ⟨k+1,by omega,by go_num,HV.out.drewN _,HV'.out.drewN _,below_drewN HB.out _⟩
   case measure=>simp [intOf];omega
  ·go_wp2
   go_ret
   exact ⟨rfl,HB.out⟩
end Go.Proofs.YtkecnihgjepfeaaGreat
