/- What is proved here: Message of the statements' base returns a message with small numbers; Table of the statements' base makes a valid table; (plain) a ring that a source has made; what keeps a list of messages beside a source; shardqueueref04.List and shardqueueref04.pushable by contracts; shardqueueref04.with by a contract. -/
import Derived.Test.YtncgbldcjfbknaaGreatJ29
namespace Go.Proofs.YtncgbldcjfbknaaGreat
open Go.RowKit
set_option linter.unusedVariables false
/-- A message made by a source. -/
def SrMsg (B g:Nat) (id lo hi:Int) (w:World) (e:Ending) (w' : World):Prop:=∃ M:Msg,e=.returned M.v∧M.id=id∧M.rt=intoF (rtF id) lo hi∧(0≤M.ep∧M.ep≤2)∧(0≤M.ct∧M.ct≤3)∧(M.ct≤M.gn∧M.gn≤65536)∧(0≤M.st∧M.st≤49)∧M.bd.size≤3∧SrcAt w' B g∧w.grownBy w' (some g)
theorem src7 {W:World} {B g b:Nat} (h:SrcAt W B g) (hne:b≠g) (hB:B≤b) (v0 v1 v2 v3 v4 v5 v6:Value):SrcAt (((((((W.setCell ⟨b,0,none⟩ v0).setCell ⟨b,1,none⟩ v1).setCell ⟨b,2,none⟩ v2).setCell ⟨b,3,none⟩ v3).setCell ⟨b,4,none⟩ v4).setCell ⟨b,5,none⟩ v5).setCell ⟨b,6,none⟩ v6) B g:=
 ((((((h.other (p:=⟨b,0,none⟩) hne hB _).other (p:=⟨b,1,none⟩) hne hB _).other (p:=⟨b,2,none⟩) hne hB _).other (p:=⟨b,3,none⟩) hne hB _).other (p:=⟨b,4,none⟩) hne hB _).other (p:=⟨b,5,none⟩) hne hB _).other (p:=⟨b,6,none⟩) hne hB _
theorem only7 {a W:World} {g b:Nat} (h:a.grownBy W (some g)) (hb:a.heap.size≤b) (v0 v1 v2 v3 v4 v5 v6:Value):a.grownBy (((((((W.setCell ⟨b,0,none⟩ v0).setCell ⟨b,1,none⟩ v1).setCell ⟨b,2,none⟩ v2).setCell ⟨b,3,none⟩ v3).setCell ⟨b,4,none⟩ v4).setCell ⟨b,5,none⟩ v5).setCell ⟨b,6,none⟩ v6) (some g):=
 only_set (only_set (only_set (only_set (only_set (only_set (only_set h (.inr hb) _) (.inr hb) _) (.inr hb) _) (.inr hb) _) (.inr hb) _) (.inr hb) _) (.inr hb) _
set_option maxHeartbeats 8000000 in
set_option maxRecDepth 20000 in
theorem message_any (B g:Nat) (w:World) (h:SrcAt w B g) (id lo hi:Int):Calls Tryz.prog 36 #[.pointer (some ⟨g,0,none⟩),.int .i64 id,.int .i64 lo,.int .i64 hi] w (SrMsg B g id lo hi w):=by
 have H:=Lh h
 have hr:=MAt.fresh (f:=fun _=>0) w 0 0 0 0 0 0 ByteArray.empty 56 rfl rfl rfl rfl rfl rfl
 obtain ⟨r,hrr⟩:∃ r,r=w.heap.size:=⟨_,rfl⟩
 rw [←hrr] at hr
 have HR:=Lh hr
 have HRR:=Lh hrr
 have HBR:=Lh (show B≤r by have:=h.1;have:=h.2.1;omega)
 have HNR:=Lh (show r≠g by have:=h.2.1;omega)
 have HROUTE:=Lh (fun w=>rroute_any id w)
 have HF:=Lh (show rtF id=rtF id from rfl)
 clear h hr hrr
 go_enter Tryz.func36,Tryz.ntmps36
 go_wp2_with fail
 refine (HROUTE.out _).mono ?_
 rintro e w1 ⟨rfl,hb⟩
 have HS1:=Lh ((H.out.alloc _).below hb)
 have HR1:=Lh (HR.out.below hb (by rw [HRR.out];simp))
 have HG1:=Lh (only_below (only_alloc (World.grownBy.refl w (some g)) _) hb)
 clear hb
 go_wp2_with fail
 refine (rinto_any _ _ _ _).mono ?_
 rintro e w2 ⟨rfl,rfl⟩
 generalize hrt:intoF (rtF id) lo hi=rt
 have HRT:=Lh hrt
 clear hrt
 go_wp2_with fail
 refine (n_any B g _ HS1.out 3 (by omega) (by omega)).mono ?_
 rintro e w2 ⟨ep,rfl,e1,e2,hs,hg⟩
 have HS2:=Lh hs
 have HR2:=Lh (HR1.out.grown hg HNR.out)
 have HG2:=Lh (HG1.out.trans hg)
 clear hs hg
 go_wp2_with fail
 refine (n_any B g _ HS2.out 4 (by omega) (by omega)).mono ?_
 rintro e w3 ⟨ct,rfl,c1',c2',hs,hg⟩
 have HS3:=Lh hs
 have HR3:=Lh (HR2.out.grown hg HNR.out)
 have HG3:=Lh (HG2.out.trans hg)
 clear hs hg
 go_wp2_with fail
 refine (n_any B g _ HS3.out 50 (by omega) (by omega)).mono ?_
 rintro e w4 ⟨st,rfl,s1,s2,hs,hg⟩
 have HS4:=Lh hs
 have HR4:=Lh (HR3.out.grown hg HNR.out)
 have HG4:=Lh (HG3.out.trans hg)
 clear hs hg
 go_wp2_with fail
 refine (body_any B g _ HS4.out).mono ?_
 rintro e w5 ⟨bd,rfl,b1,hs,hg⟩
 have HS5:=Lh hs
 have HR5:=Lh (HR4.out.grown hg HNR.out)
 have HG5:=Lh (HG4.out.trans hg)
 have hk:=MAt.fresh (f:=fun | 0=>id | 1=>rt | 2=>ep | 3=>ct | 4=>0 | _=>st) w5 id rt ep ct 0 st bd 56 rfl rfl rfl rfl rfl rfl
 have HNK:=Lh (show w5.heap.size≠g by have:=hs.2.1;omega)
 have HGW:=Lh (show w.heap.size≤w5.heap.size from HG5.out.size)
 generalize hkk:w5.heap.size=k at hk HNK HGW
 have HK:=Lh hk
 have HB1:=Lh b1
 clear hs hg hk b1
 have hS5:=HS5.out.alloc (.cells #[.int .i64 id,.int .i64 rt,.int .i64 ep,.int .i64 ct,.int .i64 0,.int .i64 st,.string bd] 56)
 have hR5:=HR5.out.alloc (.cells #[.int .i64 id,.int .i64 rt,.int .i64 ep,.int .i64 ct,.int .i64 0,.int .i64 st,.string bd] 56)
 have hG5:=only_alloc HG5.out (.cells #[.int .i64 id,.int .i64 rt,.int .i64 ep,.int .i64 ct,.int .i64 0,.int .i64 st,.string bd] 56)
 have HRQ:=Lh HR5.out.1
 have HSQ:=HS5
 have HS5:=Lh hS5
 have HR5:=Lh hR5
 have HG5:=Lh hG5
 clear hS5 hR5 hG5
 go_wp2_with fail
 have HKK:=Lh hkk
 have HRK:=Lh (show r≠k by have:=HRQ.out;omega)
 have HBK:=Lh (show B≤k by have:=HSQ.out.1;have:=HSQ.out.2.1;omega)
 clear hkk
 generalize w5.alloc (.cells #[.int .i64 id,.int .i64 rt,.int .i64 ep,.int .i64 ct,.int .i64 0,.int .i64 st,.string bd] 56)=W at*
 have hl:=HK.out.2.1 3 (by omega)
 go_region_with ((go_at_call 14;refine (n_any B g _ (SrcAt.drew HS5.out) 3 (by omega) (by omega)).mono ?_;rintro e w7 ⟨x,rfl,x1,x2,hs,hg⟩;have HS7:=Lh hs;have HG7:=Lh (HG5.out.trans (gdrew hg));have HK7:=Lh (HK.out.grown (gdrew hg) HNK.out);have HR7:=Lh (HR5.out.grown (gdrew hg) HNR.out);have g3:=HK7.out.2.1 3 (by omega);have g4:=HK7.out.2.1 4 (by omega);have g5:=HK7.out.2.2.2 4 (by omega);have hwx:IntKind.i64.wrap (ct+x)=ct+x:=IntWalk.i64_in _ (by omega);clear hs hg))
 all_goals
  obtain ⟨gn,hgn⟩:∃ gn,gn=ct+x:=⟨_,rfl⟩
  rw [←hgn]
  have q1:ct≤gn:=by omega
  have q2:gn≤65536:=by omega
  have HS8:=Lh (HS7.out.other (p:=⟨k,4,none⟩) HNK.out HBK.out (.int .i64 gn))
  have HR8:=Lh (HR7.out.other (p:=⟨k,4,none⟩) (fun e=>HRK.out e.symm) (.int .i64 gn))
  have HK8:=Lh (HK7.out.put 4 (by omega) gn)
  have HG8:=Lh (only_set HG7.out (p:=⟨k,4,none⟩) (.inr HGW.out) (.int .i64 gn))
  clear g3 g4 g5 hwx hgn x1 x2 hl
  rw [←HRR.out]
  go_wp2_with fail
  refine (n_any B g _ HS8.out 20 (by omega) (by omega)).mono ?_
  rintro e w9 ⟨y,rfl,y1,y2,hs,hg⟩
  have HS9:=Lh hs
  have HG9:=Lh (HG8.out.trans hg)
  have HK9:=Lh (HK8.out.grown hg HNK.out)
  have HR9:=Lh (HR8.out.grown hg HNR.out)
  obtain ⟨⟨a0,a1,a2,a3,a4,a5,a6⟩,b0,b1,b2,b3,b4,b5,b6⟩:=HK9.out.facts
  obtain ⟨⟨c0,c1,c2,c3,c4,c5,c6⟩,d0,d1,d2,d3,d4,d5,d6⟩:=HR9.out.facts
  have hrk:=HRK.out
  have hkr:k≠r:=fun e=>hrk e.symm
  simp at a0 a1 a2 a3 a4 a5
  clear hs hg
  by_cases hy:y=19
  ·subst hy
   go_wp2
   exact bodyPost_ret (v:=Msg.v ⟨id,rt,ep,ct,65536,st,bd⟩) (by simp only [results,Tryz.results36];go_simp <;> rfl) rfl ⟨_,rfl,rfl,by rw [HRT.out],⟨e1,e2⟩,⟨c1',c2'⟩,⟨by show ct≤65536;omega,by show (65536:Int)≤65536;omega⟩,⟨s1,s2⟩,HB1.out,src7 (HS9.out.other (p:=⟨k,4,none⟩) HNK.out HBK.out _) HNR.out HBR.out _ _ _ _ _ _ _,only7 (only_set HG9.out (p:=⟨k,4,none⟩) (.inr HGW.out) _) (by rw [HRR.out];exact Nat.le_refl _) _ _ _ _ _ _ _⟩
  ·have hy' : (y==19)=false:=beq_eq_false_iff_ne.2 hy
   go_wp2
   exact bodyPost_ret (v:=Msg.v ⟨id,rt,ep,ct,gn,st,bd⟩) (by simp only [results,Tryz.results36];go_simp <;> rfl) rfl ⟨_,rfl,rfl,by rw [HRT.out],⟨e1,e2⟩,⟨c1',c2'⟩,⟨q1,q2⟩,⟨s1,s2⟩,HB1.out,src7 HS9.out HNR.out HBR.out _ _ _ _ _ _ _,only7 HG9.out (by rw [HRR.out];exact Nat.le_refl _) _ _ _ _ _ _ _⟩
theorem El.grownG {W W' : World} {g lo n c:Nat} {A:Option Addr} {l:List Le} (h:El W W.heap.size (.slice A n c) l) (hA:Nw lo A) (hg:g<lo) (hgr:W.grownBy W' (some g)):El W' W'.heap.size (.slice A n c) l:=by
 obtain ⟨A',c',e,hl,hm,hr⟩:=h
 injection e with e1 e2 e3
 subst e1;subst e3
 refine ⟨A,c,by rw [e2],hl,hm,hr.1,fun h0=>?_⟩
 obtain ⟨b,o,e,hb,hc⟩:=hr.2 h0
 have hlo:lo≤b:=hA _ e
 exact ⟨b,o,e,Nat.lt_of_lt_of_le hb hgr.size,fun j u hu=>(hgr.cell_far ⟨b,o+j,none⟩ hb (fun e'=>by injection e' with e';have e2:b=g:=e';omega)).trans (hc j u hu)⟩
theorem Dl.grownT {W W' : World} {g lo n c:Nat} {A:Option Addr} {l:List Du} (h:Dl W W.heap.size (.slice A n c) l) (hA:Nw lo A) (hg:g<lo) (hgr:W.grownBy W' (some g)):Dl W' W'.heap.size (.slice A n c) l:=by
 obtain ⟨A',c',e,hl,hm,hr⟩:=h
 injection e with e1 e2 e3
 subst e1;subst e3
 refine ⟨A,c,by rw [e2],hl,hm,hr.1,fun h0=>?_⟩
 obtain ⟨b,o,e,hb,hc⟩:=hr.2 h0
 have hlo:lo≤b:=hA _ e
 exact ⟨b,o,e,Nat.lt_of_lt_of_le hb hgr.size,fun j u hu=>(hgr.cell_far ⟨b,o+j,none⟩ hb (fun e'=>by injection e' with e';have e2:b=g:=e';omega)).trans (hc j u hu)⟩
theorem RT.grownG {W W' : World} {g r n c n2 c2:Nat} {A A2:Option Addr} (h:RT W r A n c A2 n2 c2) (hgr:W.grownBy W' (some g)) (hne:r≠g):RT W' r A n c A2 n2 c2:=
 ⟨(hgr.cell_far ⟨r,0,none⟩ h.lt (fun e=>hne (by injection e))).trans h.c0,(hgr.cell_far ⟨r,1,none⟩ h.lt (fun e=>hne (by injection e))).trans h.c1,(hgr.frozen_far ⟨r,0,none⟩ h.lt (fun e=>hne (by injection e))).trans h.f0,(hgr.frozen_far ⟨r,1,none⟩ h.lt (fun e=>hne (by injection e))).trans h.f1,Nat.lt_of_lt_of_le h.lt hgr.size⟩
theorem RT.put {W:World} {r n c n2 c2:Nat} {A A2:Option Addr} (h:RT W r A n c A2 n2 c2) (D:Option Addr) (m d:Nat) (D2:Option Addr) (m2 d2:Nat):RT (set2 W r (.slice D m d) (.slice D2 m2 d2)) r D m d D2 m2 d2:=by
 refine ⟨?_,?_,by rw [set2_frozen];exact h.f0,by rw [set2_frozen];exact h.f1,by rw [set2_size];exact h.lt⟩
 ·rw [World.cell?_setCell_other _ _ _ _ (fun e=>by injection e with _ e _;cases e),World.cell?_setCell_same' _ _ _ (by rw [h.c0];rfl)]
 ·rw [World.cell?_setCell_same' _ _ _ (by rw [World.cell?_setCell_other _ _ _ _ (fun e=>by injection e with _ e _;cases e),h.c1];rfl)]
theorem RT.far {W:World} {r y n c n2 c2:Nat} {A A2:Option Addr} (h:RT W r A n c A2 n2 c2) (hy:r≠y) (v v2:Value):RT (set2 W y v v2) r A n c A2 n2 c2:=
 ⟨(set2_far hy).trans h.c0,(set2_far hy).trans h.c1,by rw [set2_frozen];exact h.f0,by rw [set2_frozen];exact h.f1,by rw [set2_size];exact h.lt⟩
theorem tb_gr {l:List Le} {h:List Du} (t:TbOk l h) (X:Le):TbOk (grL l h X) (grH l h X):=by
 by_cases e:grE l h X=0
 ·obtain ⟨_,ok,hl,hf⟩:=grE_zero e
  unfold grL grH
  rw [if_pos e,if_pos e]
  exact t.grant ok ok.snd hl hf
 ·obtain ⟨h1,h2⟩:=grE_ne e
  rw [h1,h2]
  exact TbOk.nil
/-- The work of Table. -/
structure TaAt (w:World) (B g r y:Nat) (A:Option Addr) (c:Nat) (l:List Le) (A2:Option Addr) (c2:Nat) (h:List Du) (W:World):Prop where
 rs:RT W r none 0 0 none 0 0
 rb:RT W y A l.length c A2 h.length c2
 el:El W W.heap.size (.slice A l.length c) l
 dl:Dl W W.heap.size (.slice A2 h.length c2) h
 src:SrcAt W B g
 grow:w.grownBy W (some g)
 nw:Nw (y+1) A∧Nw (y+1) A2
 ne:g<w.heap.size∧w.heap.size≤r∧r<y
section
variable {w W W' : World} {B g r y c c2:Nat} {A A2:Option Addr} {l:List Le} {h:List Du}
theorem TaAt.grownG (k:TaAt w B g r y A c l A2 c2 h W) (hs:SrcAt W' B g) (hg:W.grownBy W' (some g)):TaAt w B g r y A c l A2 c2 h W':=
 ⟨k.rs.grownG hg (by have:=k.ne;omega),k.rb.grownG hg (by have:=k.ne;omega),k.el.grownG k.nw.1 (by have:=k.ne;omega) hg,k.dl.grownT k.nw.2 (by have:=k.ne;omega) hg,hs,k.grow.trans hg,k.nw,k.ne⟩
theorem TaAt.below (k:TaAt w B g r y A c l A2 c2 h W) (hb:Below W.heap.size W W'):TaAt w B g r y A c l A2 c2 h W':=
 ⟨k.rs.below hb k.rs.lt,k.rb.below hb k.rb.lt,k.el.up hb,k.dl.up hb,k.src.below hb,only_below k.grow hb,k.nw,k.ne⟩
theorem TaAt.drew (k:TaAt w B g r y A c l A2 c2 h W):TaAt w B g r y A c l A2 c2 h W.drew:=k.below ((Below.refl _ _).drew)
theorem TaAt.store {A5 A6:Option Addr} {c5 c6:Nat} {l5:List Le} {h5:List Du} (k:TaAt w B g r y A c l A2 c2 h W) (n5:Nw W.heap.size A5) (n6:Nw W.heap.size A6) (hb:Below W.heap.size W W') (h1:El W' W'.heap.size (.slice A5 l5.length c5) l5) (h2:Dl W' W'.heap.size (.slice A6 h5.length c6) h5) :
  TaAt w B g r y A5 c5 l5 A6 c6 h5 (set2 W' y (.slice A5 l5.length c5) (.slice A6 h5.length c6)):=by
 have k':=k.below hb
 have hy:=k.rb.lt
 have hne:=k.ne
 refine ⟨k'.rs.far (by omega) _ _,k'.rb.put _ _ _ _ _ _,(h1.set2 n5 hy).more (by simp),(h2.set2 n6 hy).more (by simp),?_,?_,⟨nw_low n5 hy,nw_low n6 hy⟩,hne⟩
 ·have hB:B≤g:=k.src.1
  exact (k'.src.other (p:=⟨y,0,none⟩) (show y≠g by omega) (show B≤y by omega) _).other (p:=⟨y,1,none⟩) (show y≠g by omega) (show B≤y by omega) _
 ·exact only_set (only_set k'.grow (p:=⟨y,0,none⟩) (.inr (show w.heap.size≤y by omega)) _) (p:=⟨y,1,none⟩) (.inr (show w.heap.size≤y by omega)) _
end
theorem RMs.grownG {W W' : World} {g r:Nat} {M:Msg} (h:RMs W r M) (hg:W.grownBy W' (some g)) (hne:r≠g):RMs W' r M:=
 have hl:=h.lt
 have c:∀ o,W'.cell? ⟨r,o,none⟩=W.cell? ⟨r,o,none⟩:=fun o=>hg.cell_far ⟨r,o,none⟩ hl (fun e=>hne (by injection e))
 have f:∀ o,W'.frozen? ⟨r,o,none⟩=W.frozen? ⟨r,o,none⟩:=fun o=>hg.frozen_far ⟨r,o,none⟩ hl (fun e=>hne (by injection e))
 ⟨(c 0).trans h.1,(c 1).trans h.2.1,(c 2).trans h.2.2.1,(c 3).trans h.2.2.2.1,(c 4).trans h.2.2.2.2.1,(c 5).trans h.2.2.2.2.2.1,(c 6).trans h.2.2.2.2.2.2.1,(f 0).trans h.2.2.2.2.2.2.2.1,(f 1).trans h.2.2.2.2.2.2.2.2.1,(f 2).trans h.2.2.2.2.2.2.2.2.2.1,(f 3).trans h.2.2.2.2.2.2.2.2.2.2.1,(f 4).trans h.2.2.2.2.2.2.2.2.2.2.2.1,(f 5).trans h.2.2.2.2.2.2.2.2.2.2.2.2.1,(f 6).trans h.2.2.2.2.2.2.2.2.2.2.2.2.2.1,Nat.lt_of_lt_of_le hl hg.size⟩
/-- An address does not lie in a block. -/
def Off (b:Nat) (A:Option Addr):Prop:=∀ a,A=some a→a.block≠b
theorem off_nw {b lo:Nat} {A:Option Addr} (h:Nw lo A) (hb:b<lo):Off b A:=fun a e=>by have:=h a e;omega
theorem off_ls {W:World} {B n c:Nat} {A:Option Addr} {l:List Msg} (h:Ls W B (.slice A n c) l) (hl:0<l.length) {b:Nat} (hb:B≤b):Off b A:=fun a e=>by
 obtain ⟨b',o,e',hb',_⟩:=h.rd.2 (by rw [h.len.1];exact hl)
 rw [e'] at e
 injection e with e
 subst e
 show b'≠b
 omega
theorem Ls.off' {W:World} {B n c:Nat} {A:Option Addr} {l:List Msg} (h:Ls W B (.slice A n c) l) {p:Addr} (hA:Off p.block A) (v:Value):Ls (W.setCell p v) B (.slice A n c) l:=by
 obtain ⟨A',c',e,hl,hm,hr⟩:=h
 injection e with e1 e2 e3
 subst e1;subst e3
 refine ⟨A,c,by rw [e2],hl,hm,hr.1,fun h0=>?_⟩
 obtain ⟨b,o,e,hb,hc⟩:=hr.2 h0
 have hlo:=hA _ e
 exact ⟨b,o,e,hb,fun j u hu=>(World.cell?_setCell_other W p ⟨b,o+j,none⟩ v (fun e'=>hlo (congrArg Addr.block e').symm)).trans (hc j u hu)⟩
theorem Ls.grownG {W W' : World} {B n c g:Nat} {A:Option Addr} {l:List Msg} (h:Ls W B (.slice A n c) l) (hg:W.grownBy W' (some g)) (hB:B≤W.heap.size) (hA:Off g A):Ls W' B (.slice A n c) l:=by
 obtain ⟨A',c',e,hl,hm,hr⟩:=h
 injection e with e1 e2 e3
 subst e1;subst e3
 refine ⟨A,c,by rw [e2],hl,hm,hr.1,fun h0=>?_⟩
 obtain ⟨b,o,e,hb,hc⟩:=hr.2 h0
 have hlo:=hA _ e
 exact ⟨b,o,e,hb,fun j u hu=>(hg.cell_far ⟨b,o+j,none⟩ (Nat.lt_of_lt_of_le hb hB) (fun e'=>hlo (by injection e'))).trans (hc j u hu)⟩
theorem RB.grownG {W W' : World} {p n c g:Nat} {A:Option Addr} {hd sz:Int} (h:RB W p A n c hd sz) (hg:W.grownBy W' (some g)) (hp:p≠g):RB W' p A n c hd sz:=by
 have e:∀ o,W'.cell? ⟨p,o,none⟩=W.cell? ⟨p,o,none⟩:=fun o=>hg.cell_far ⟨p,o,none⟩ h.lt (fun e=>hp (by injection e))
 exact ⟨Nat.lt_of_lt_of_le h.lt hg.size,(e 0).trans h.c0,(e 1).trans h.c1,(e 2).trans h.c2,fun o=>(hg.frozen_far ⟨p,o,none⟩ h.lt (fun e=>hp (by injection e))).trans (h.fr o)⟩
theorem into_span (r l h:Int) (r0:0≤r) (r1:r≤65535) (l0:0≤l) (h1:h≤65535) (hlh:l≤h):l≤intoF r l h∧intoF r l h≤h:=by
 have hA:areB r l h=true:=decide_eq_true ⟨⟨r0,r1⟩,⟨l0,by omega⟩,⟨by omega,h1⟩⟩
 have hm0:0≤r % (h - l+1):=Int.emod_nonneg _ (by omega)
 have hm1:r % (h - l+1)<h - l+1:=Int.emod_lt_of_pos _ (by omega)
 unfold intoF
 rw [if_pos ⟨hA,hlh⟩]
 split <;> omega
/-- A message that a source has made is valid. -/
theorem msg_ok {M:Msg} {id lo hi:Int} (h0:M.id=id) (h1:M.rt=intoF (rtF id) lo hi) (h2:0≤M.ep∧M.ep≤2) (h3:0≤M.ct∧M.ct≤3) (h4:M.ct≤M.gn∧M.gn≤65536) (h5:0≤M.st∧M.st≤49) (h6:M.bd.size≤3) (i1:1≤id) (i2:id≤1073741824) (l0:0≤lo) (l1:lo≤hi) (l2:hi≤65535):vf M=0:=by
 have hr:=rtF_lt id
 have:=into_span (rtF id) lo hi hr.1 hr.2 l0 l2 l1
 exact ok_vf ⟨by omega,by omega,by omega,by omega,by omega,by omega,by omega⟩
set_option maxHeartbeats 2000000 in
theorem rlist_any (A:Option Addr) (n c:Nat) (cs:List Msg) (hd sz:Int) (w:World) (hv:Ls w w.heap.size (.slice A n c) cs) :
  Calls Tryz.prog 117 #[.agg #[.slice A n c,.int .i64 hd,.int .i64 sz]] w (LsP (lsF cs hd sz) w):=by
 obtain ⟨rfl,_,_⟩:=hv.len
 have HV:=Lh hv
 have HS:=Lh (RgAt.start w A cs.length c hd sz 27)
 have HG:=Lh (fun w1 (h:Ls w1 w1.heap.size (.slice A cs.length c) cs)=>rvalid_any A cs.length c cs hd sz w1 h)
 clear hv
 by_cases h0:rgV cs hd sz=0
 ·obtain ⟨hn,_,_,_⟩:=rgV_zero h0
  obtain ⟨⟨n1,n2⟩,⟨h1,h2⟩,⟨s1,s2⟩⟩:=nm_of hn
  obtain ⟨hd,rfl⟩:=Int.eq_ofNat_of_zero_le h1
  obtain ⟨sz,rfl⟩:=Int.eq_ofNat_of_zero_le s1
  have HO:=Lh (fun w1 (h:Ls w1 w1.heap.size (.slice A cs.length c) cs)=>rorder_any A cs.length c cs hd sz w1 h hn)
  have HF:=Lh (show lsF cs hd sz=ord cs hd sz from if_pos h0)
  rw [h0] at HG
  clear h0 hn n1 n2 h1 h2 s1 s2
  go_enter Tryz.func117,Tryz.ntmps117
  go_wp2_with fail
  refine (HG.out _ ((HV.out.below HS.out.bel).more HS.out.bel.size)).mono ?_
  rintro e w1 ⟨rfl,hb⟩
  have HR1:=Lh (HS.out.below hb)
  obtain ⟨r0,r1,r2,hp⟩:=HR1.out.facts
  clear hb
  go_wp2_with fail
  refine (HO.out _ ((HV.out.below HR1.out.bel).more HR1.out.bel.size)).mono ?_
  rintro e w2 ⟨v,rfl,hnw,hl,hb⟩
  have HNV:=Lh (nwv_low hnw HR1.out.bel.size)
  clear hnw
  have HL:=Lh hl
  have HB:=Lh (HR1.out.bel.trans (hb.mono HR1.out.bel.size))
  clear hl hb
  go_wp2
  go_ret
  exact ⟨_,rfl,HNV.out,by rw [HF.out];exact HL.out,HB.out⟩
 ·have HF:=Lh (show lsF cs hd sz=[] from if_neg h0)
  have hne:(rgV cs hd sz != 0)=true:=bne_iff_ne.2 h0
  generalize rgV cs hd sz=x at*
  clear h0
  go_enter Tryz.func117,Tryz.ntmps117
  go_wp2_with fail
  refine (HG.out _ ((HV.out.below HS.out.bel).more HS.out.bel.size)).mono ?_
  rintro e w1 ⟨rfl,hb⟩
  have HR1:=Lh (HS.out.below hb)
  clear hb
  go_wp2
  go_ret
  exact ⟨_,rfl,nwv_mk nw_none,by rw [HF.out];exact Ls.nil,HR1.out.bel⟩
set_option maxHeartbeats 4000000 in
theorem pushable_any (A:Option Addr) (n c:Nat) (cs:List Msg) (hd sz:Int) (M:Msg) (w:World) (hv:Ls w w.heap.size (.slice A n c) cs) :
  Calls Tryz.prog 176 #[.agg #[.slice A n c,.int .i64 hd,.int .i64 sz],M.v] w (VlT w (puE cs hd sz M)):=by
 obtain ⟨rfl,_,_⟩:=hv.len
 have HV:=Lh hv
 have HS:=Lh (RmAt.start w A cs.length c hd sz M 27 56)
 have HG:=Lh (fun w1 (h:Ls w1 w1.heap.size (.slice A cs.length c) cs)=>rvalid_any A cs.length c cs hd sz w1 h)
 have HM:=Lh (fun w1=>rvalidate_any M w1)
 clear hv
 by_cases h0:rgV cs hd sz=0
 ·by_cases h1:vf M=0
  ·by_cases h2:sz=cs.length
   ·have HF:=Lh (show puE cs hd sz M=3 by unfold puE;rw [if_neg (by simpa using h0),if_neg (by simpa using h1),if_pos h2])
    rw [h0] at HG
    rw [h1] at HM
    subst h2
    clear h0 h1
    go_enter Tryz.func176,Tryz.ntmps176
    go_wp2_with fail
    refine (HG.out _ (HV.out.up HS.out.rg.bel)).mono ?_
    rintro e w1 ⟨rfl,hb⟩
    have HR1:=Lh (HS.out.below hb)
    obtain ⟨⟨r0,r1,r2,hp⟩,⟨m0,m1,m2,m3,m4,m5,m6⟩,hq⟩:=HR1.out.facts
    clear hb
    go_wp2_with fail
    refine (HM.out _).mono ?_
    rintro e w2 ⟨rfl,hb⟩
    have HR2:=Lh (HR1.out.below hb)
    clear hb r0 r1 r2 hp m0 m1 m2 m3 m4 m5 m6 hq
    obtain ⟨⟨r0,r1,r2,hp⟩,⟨m0,m1,m2,m3,m4,m5,m6⟩,hq⟩:=HR2.out.facts
    go_wp2
    go_ret
    exact ⟨ret_i64 HF.out.symm,HR2.out.rg.bel⟩
   ·have h2' : (sz==(cs.length:Int))=false:=beq_eq_false_iff_ne.2 h2
    obtain ⟨hn,_,_,_⟩:=rgV_zero h0
    obtain ⟨⟨n1,n2⟩,⟨k1,k2⟩,⟨s1,s2⟩⟩:=nm_of hn
    obtain ⟨hd,rfl⟩:=Int.eq_ofNat_of_zero_le k1
    obtain ⟨sz,rfl⟩:=Int.eq_ofNat_of_zero_le s1
    have HO:=Lh (fun w1 (h:Ls w1 w1.heap.size (.slice A cs.length c) cs)=>rorder_any A cs.length c cs hd sz w1 h hn)
    have HF:=Lh (show puE cs hd sz M=if 0≤ixF (ord cs hd sz) M.id then 10 else 0 by unfold puE;rw [if_neg (by simpa using h0),if_neg (by simpa using h1),if_neg h2];simp only [Int.toNat_natCast])
    have HFI:=Lh (fun v w1 (h:Ls w1 w1.heap.size v (ord cs hd sz))=>(show ∃ A' n' c',v=.slice A' n' c' from by obtain ⟨A',c',e,_⟩:=h.form;exact ⟨A',_,c',e⟩))
    have HFN:=Lh (fun A' n' c' w1 (h:Ls w1 w1.heap.size (.slice A' n' c') (ord cs hd sz))=>rindex_any A' n' c' (ord cs hd sz) M.id w1 w1.heap.size h)
    have HIL:=Lh (ixF_lt (ord cs hd sz) M.id).1
    generalize ixF (ord cs hd sz) M.id=r at*
    generalize ord cs hd sz=l at*
    rw [h0] at HG
    rw [h1] at HM
    clear h0 h1 h2 hn n1 n2 k1 k2 s1 s2
    by_cases hr:0≤r
    ·have HF':=Lh (HF.out.trans (if_pos hr))
     go_enter Tryz.func176,Tryz.ntmps176
     go_wp2_with fail
     refine (HG.out _ (HV.out.up HS.out.rg.bel)).mono ?_
     rintro e w1 ⟨rfl,hb⟩
     have HR1:=Lh (HS.out.below hb)
     obtain ⟨⟨r0,r1,r2,hp⟩,⟨m0,m1,m2,m3,m4,m5,m6⟩,hq⟩:=HR1.out.facts
     clear hb
     go_wp2_with fail
     refine (HM.out _).mono ?_
     rintro e w2 ⟨rfl,hb⟩
     have HR2:=Lh (HR1.out.below hb)
     clear hb r0 r1 r2 hp m0 m1 m2 m3 m4 m5 m6 hq
     obtain ⟨⟨r0,r1,r2,hp⟩,⟨m0,m1,m2,m3,m4,m5,m6⟩,hq⟩:=HR2.out.facts
     go_wp2
     go_region_with (first
      | (go_at_call 112;refine (HO.out _ (HV.out.up HR2.out.drew.rg.bel)).mono ?_;rintro e w3 ⟨v,rfl,hnw,hl,hb⟩;clear hnw;obtain ⟨A3,n3,c3,rfl⟩:=HFI.out _ _ hl;have HR3:=Lh (HR2.out.drew.below hb);have HL3:=Lh hl;obtain ⟨⟨t0,t1,t2,hp3⟩,⟨x0,x1,x2,x3,x4,x5,x6⟩,hq3⟩:=HR3.out.facts;clear hl hb)
      | (go_at_call 28;refine (HFN.out _ _ _ _ HL3.out).mono ?_;rintro e w4 ⟨rfl,rfl⟩;have HR4:=HR3))
     all_goals
      go_wp2
      go_ret
      exact ⟨ret_i64 HF'.out.symm,HR4.out.rg.bel⟩
    ·have HF':=Lh (HF.out.trans (if_neg hr))
     have hr1:r = -1:=by have:=HIL.out;omega
     subst hr1
     clear hr
     go_enter Tryz.func176,Tryz.ntmps176
     go_wp2_with fail
     refine (HG.out _ (HV.out.up HS.out.rg.bel)).mono ?_
     rintro e w1 ⟨rfl,hb⟩
     have HR1:=Lh (HS.out.below hb)
     obtain ⟨⟨r0,r1,r2,hp⟩,⟨m0,m1,m2,m3,m4,m5,m6⟩,hq⟩:=HR1.out.facts
     clear hb
     go_wp2_with fail
     refine (HM.out _).mono ?_
     rintro e w2 ⟨rfl,hb⟩
     have HR2:=Lh (HR1.out.below hb)
     clear hb r0 r1 r2 hp m0 m1 m2 m3 m4 m5 m6 hq
     obtain ⟨⟨r0,r1,r2,hp⟩,⟨m0,m1,m2,m3,m4,m5,m6⟩,hq⟩:=HR2.out.facts
     go_wp2
     go_region_with (first
      | (go_at_call 112;refine (HO.out _ (HV.out.up HR2.out.drew.rg.bel)).mono ?_;rintro e w3 ⟨v,rfl,hnw,hl,hb⟩;clear hnw;obtain ⟨A3,n3,c3,rfl⟩:=HFI.out _ _ hl;have HR3:=Lh (HR2.out.drew.below hb);have HL3:=Lh hl;obtain ⟨⟨t0,t1,t2,hp3⟩,⟨x0,x1,x2,x3,x4,x5,x6⟩,hq3⟩:=HR3.out.facts;clear hl hb)
      | (go_at_call 28;refine (HFN.out _ _ _ _ HL3.out).mono ?_;rintro e w4 ⟨rfl,rfl⟩;have HR4:=HR3))
     all_goals
      go_wp2
      go_ret
      exact ⟨ret_i64 HF'.out.symm,HR4.out.rg.bel⟩
  ·have HF:=Lh (show puE cs hd sz M=vf M by unfold puE;rw [if_neg (by simpa using h0),if_pos h1])
   have hne:(vf M != 0)=true:=bne_iff_ne.2 h1
   generalize vf M=x at*
   rw [h0] at HG
   clear h0 h1
   go_enter Tryz.func176,Tryz.ntmps176
   go_wp2_with fail
   refine (HG.out _ (HV.out.up HS.out.rg.bel)).mono ?_
   rintro e w1 ⟨rfl,hb⟩
   have HR1:=Lh (HS.out.below hb)
   obtain ⟨⟨r0,r1,r2,hp⟩,⟨m0,m1,m2,m3,m4,m5,m6⟩,hq⟩:=HR1.out.facts
   clear hb
   go_wp2_with fail
   refine (HM.out _).mono ?_
   rintro e w2 ⟨rfl,hb⟩
   have HR2:=Lh (HR1.out.below hb)
   clear hb r0 r1 r2 hp m0 m1 m2 m3 m4 m5 m6 hq
   go_wp2
   go_ret
   exact ⟨ret_i64 HF.out.symm,HR2.out.rg.bel⟩
 ·have HF:=Lh (show puE cs hd sz M=rgV cs hd sz from if_pos h0)
  have hne:(rgV cs hd sz != 0)=true:=bne_iff_ne.2 h0
  generalize rgV cs hd sz=x at*
  clear h0
  go_enter Tryz.func176,Tryz.ntmps176
  go_wp2_with fail
  refine (HG.out _ (HV.out.up HS.out.rg.bel)).mono ?_
  rintro e w1 ⟨rfl,hb⟩
  have HR1:=Lh (HS.out.below hb)
  clear hb
  go_wp2
  go_ret
  exact ⟨ret_i64 HF.out.symm,HR1.out.rg.bel⟩
/-- A result that is a ring. -/
def WiP (w:World) (cs:List Msg) (hd sz:Int) (e:Ending) (w' : World):Prop:=∃ A c,e=.returned (.agg #[.slice A cs.length c,.int .i64 hd,.int .i64 sz])∧Nw w.heap.size A∧Ls w' w'.heap.size (.slice A cs.length c) cs∧Below w.heap.size w w'
theorem C7.drew0 {W:World} {b m:Nat} {M:Msg} (h:C7 W b m M):C7 W.drew b m M:=h
theorem C7.far7 {W:World} {b m q:Nat} {M:Msg} (k:C7 W b m M) (hb:b≠q) (x:Nat) (X:Msg):C7 (((((((W.setCell ⟨q,x,none⟩ (.int .i64 X.id)).setCell ⟨q,x+1,none⟩ (.int .i64 X.rt)).setCell ⟨q,x+2,none⟩ (.int .i64 X.ep)).setCell ⟨q,x+3,none⟩ (.int .i64 X.ct)).setCell ⟨q,x+4,none⟩ (.int .i64 X.gn)).setCell ⟨q,x+5,none⟩ (.int .i64 X.st)).setCell ⟨q,x+6,none⟩ (.string X.bd)) b m M:=by
 have e:∀ o,(((((((W.setCell ⟨q,x,none⟩ (.int .i64 X.id)).setCell ⟨q,x+1,none⟩ (.int .i64 X.rt)).setCell ⟨q,x+2,none⟩ (.int .i64 X.ep)).setCell ⟨q,x+3,none⟩ (.int .i64 X.ct)).setCell ⟨q,x+4,none⟩ (.int .i64 X.gn)).setCell ⟨q,x+5,none⟩ (.int .i64 X.st)).setCell ⟨q,x+6,none⟩ (.string X.bd)).cell? ⟨b,o,none⟩=W.cell? ⟨b,o,none⟩:=fun o=>sets_far (W:=W) (q:=q) (p:=⟨b,o,none⟩) hb x X.l
 obtain ⟨c0,c1,c2,c3,c4,c5,c6⟩:=k
 exact ⟨(e _).trans c0,(e _).trans c1,(e _).trans c2,(e _).trans c3,(e _).trans c4,(e _).trans c5,(e _).trans c6⟩
/-- The work of 'with': the result, the new cells and the new ring. -/
structure WiAt (w:World) (r z y:Nat) (n:Nat) (hd sz:Int) (f:Nat→Msg) (W:World):Prop where
 rs:RB W r none 0 0 0 0
 row:MRow W z n f
 rb:RB W y (some ⟨z,0,none⟩) n n hd sz
 bel:Below w.heap.size w W
 old:w.heap.size≤r∧r<z∧z<y
section
variable {w W W' : World} {r z y n:Nat} {hd sz:Int} {f:Nat→Msg}
theorem WiAt.drew (h:WiAt w r z y n hd sz f W):WiAt w r z y n hd sz f W.drew:=⟨h.rs.drew,h.row,h.rb.drew,h.bel.drew,h.old⟩
theorem WiAt.put (h:WiAt w r z y n hd sz f W) {k:Nat} (hk:k<n) (M:Msg):WiAt w r z y n hd sz (fun i=>if i=k then M else f i) (((((((W.setCell ⟨z,k*7,none⟩ (.int .i64 M.id)).setCell ⟨z,k*7+1,none⟩ (.int .i64 M.rt)).setCell ⟨z,k*7+2,none⟩ (.int .i64 M.ep)).setCell ⟨z,k*7+3,none⟩ (.int .i64 M.ct)).setCell ⟨z,k*7+4,none⟩ (.int .i64 M.gn)).setCell ⟨z,k*7+5,none⟩ (.int .i64 M.st)).setCell ⟨z,k*7+6,none⟩ (.string M.bd)):=
 ⟨h.rs.sets (by have:=h.old;omega) (k*7) M.l,h.row.put7n hk M,h.rb.sets (by have:=h.old;omega) (k*7) M.l,sets_below (by have:=h.old;omega) M.l (k*7) W h.bel,h.old⟩
theorem WiAt.at_ (h:WiAt w r z y n hd sz f W) {k:Nat} (hk:k<n):C7 W z (k*7) (f k)∧(W.frozen? ⟨z,k*7,none⟩=false∧W.frozen? ⟨z,k*7+1,none⟩=false∧W.frozen? ⟨z,k*7+2,none⟩=false∧W.frozen? ⟨z,k*7+3,none⟩=false∧W.frozen? ⟨z,k*7+4,none⟩=false∧W.frozen? ⟨z,k*7+5,none⟩=false∧W.frozen? ⟨z,k*7+6,none⟩=false)∧z<W.heap.size∧y<W.heap.size∧z≠y∧y≠z:=
 ⟨h.row.c7 hk,h.row.free _,h.row.1,h.rb.lt,by have:=h.old;omega,by have:=h.old;omega⟩
theorem WiAt.s8 (h:WiAt w r z y n hd sz f W) {b m:Nat} {X:Msg} (hc:C7 W b m X):W.cell? ⟨y,0,none⟩=some (.slice (some ⟨z,0,none⟩) n n)∧W.cell? ⟨b,m,none⟩=some (.int .i64 X.id)∧W.cell? ⟨b,m+1,none⟩=some (.int .i64 X.rt)∧W.cell? ⟨b,m+2,none⟩=some (.int .i64 X.ep)∧W.cell? ⟨b,m+3,none⟩=some (.int .i64 X.ct)∧W.cell? ⟨b,m+4,none⟩=some (.int .i64 X.gn)∧W.cell? ⟨b,m+5,none⟩=some (.int .i64 X.st)∧W.cell? ⟨b,m+6,none⟩=some (.string X.bd):=⟨h.rb.c0,hc⟩
theorem WiAt.start (w:World) (o:Obj) (n:Nat) (hd sz:Int) (t u:TypeId):WiAt w (w.heap.size+1) (w.heap.size+1+1) (w.heap.size+1+1+1) n hd sz (fun _=>zM) ((((w.alloc o).alloc (.cells #[.slice none 0 0,.int .i64 0,.int .i64 0] t)).alloc (.cells (madeCells (Msg.v zM).cells (n*7)) u)).alloc (.cells #[.slice (some ⟨w.heap.size+1+1,0,none⟩) n n,.int .i64 hd,.int .i64 sz] t)):=by
 have e:(w.alloc o).heap.size=w.heap.size+1:=by simp
 have e2:((w.alloc o).alloc (.cells #[.slice none 0 0,.int .i64 0,.int .i64 0] t)).heap.size=w.heap.size+1+1:=by simp
 have e3:(((w.alloc o).alloc (.cells #[.slice none 0 0,.int .i64 0,.int .i64 0] t)).alloc (.cells (madeCells (Msg.v zM).cells (n*7)) u)).heap.size=w.heap.size+1+1+1:=by simp
 have k:=RB.fresh (w.alloc o) none 0 0 0 0 t
 have h:=MRow.made ((w.alloc o).alloc (.cells #[.slice none 0 0,.int .i64 0,.int .i64 0] t)) n u
 have g:=RB.fresh (((w.alloc o).alloc (.cells #[.slice none 0 0,.int .i64 0,.int .i64 0] t)).alloc (.cells (madeCells (Msg.v zM).cells (n*7)) u)) (some ⟨w.heap.size+1+1,0,none⟩) n n hd sz t
 rw [e] at k
 rw [e2] at h
 rw [e3] at g
 exact ⟨(k.alloc _).alloc _,h.alloc _,g,((((Below.refl _ _).alloc (Nat.le_refl _) _).alloc (by omega) _).alloc (by omega) _).alloc (by omega) _,by omega,Nat.lt_succ_self _,Nat.lt_succ_self _⟩
end
attribute [local go_sem ↓] Go.wp_at_zero Go.wp_at_succ
set_option maxHeartbeats 4000000 in
set_option maxRecDepth 20000 in
theorem with_any (A:Option Addr) (n c:Nat) (hd0 sz0:Int) (hd:Nat) (A' : Option Addr) (n' c' : Nat) (l:List Msg) (w:World) (hn1:hd<n) (hn2:n≤12) (hln:l.length≤n) (hv:Ls w w.heap.size (.slice A' n' c') l) :
  Calls Tryz.prog 177 #[.agg #[.slice A n c,.int .i64 hd0,.int .i64 sz0],.int .i64 hd,.slice A' n' c'] w (WiP w (fil n hd l) hd l.length):=by
 obtain ⟨rfl,_,_⟩:=hv.len
 have HV:=Lh hv
 have hmk:=run_make_msgs n (by omega)
 have hn0:0<n:=by omega
 have HFL:=Lh (fil_len n hd l)
 have hnl:¬(n=0):=by omega
 have hn12:(n:Int)≤12:=by omega
 have hh12:(hd:Int)<(n:Int):=by omega
 clear hv
 go_enter Tryz.func177,Tryz.ntmps177
 go_wp2
 have HS:=Lh (WiAt.start w (.cells #[.slice A n c,.int .i64 hd0,.int .i64 sz0] 27) n hd l.length 27 56)
 obtain ⟨r,hr⟩:∃ r,r=w.heap.size+1:=⟨_,rfl⟩
 obtain ⟨z,hz⟩:∃ z,z=w.heap.size+1+1:=⟨_,rfl⟩
 obtain ⟨y,hy⟩:∃ y,y=w.heap.size+1+1+1:=⟨_,rfl⟩
 rw [←hy,←hz,←hr] at HS ⊢
 clear hr hz hy hmk
 go_loopw [8] (fun i wr=>∃ (k:Nat) (f:Nat→Msg),k≤l.length∧i=.int .i64 k∧WiAt w r z y n hd l.length f wr∧∀ j,j<n→f ((hd+j) % n)=if j<k then l.getD j zM else zM) (fun i _=>l.length - (intOf i).toNat)
 case atStart=>exact ⟨0,_,by omega,rfl,HS.out,fun j hj=>by rw [if_neg (by omega)]⟩
 case round=>
  obtain ⟨k,f,hk,rfl,hw,hf⟩:=hrel
  have HW:=Lh hw
  have HF:=Lh hf
  obtain ⟨r0,r1,r2,r3,r4,r5,hpl⟩:=hw.rb.facts
  clear hw hf
  by_cases hlt:k<l.length
  ·obtain ⟨m,hm⟩:∃ m,m=(hd+k) % n:=⟨_,rfl⟩
   have hml:m<n:=by rw [hm];exact Nat.mod_lt _ hn0
   have hmi:((hd:Int)+(k:Int)) % (n:Int)=(m:Int):=by rw [hm];simp
   have hk12:(k:Int)≤12:=by omega
   have hhk:IntKind.i64.wrap ((hd:Int)+(k:Int))=(hd:Int)+(k:Int):=IntWalk.i64_in _ (by omega)
   have hmt:((hd:Int)+(k:Int)).tmod (n:Int)=(m:Int):=by rw [Int.tmod_eq_emod_of_nonneg (show 0≤(hd:Int)+(k:Int) by omega)];exact hmi
   have hml' : (m:Int)<(n:Int):=by omega
   obtain ⟨b,o,rfl,hbb,hc⟩:=(HV.out.below HW.out.bel).at_ hlt
   have HLX:=Lh (show l.getD k zM=l[k] by simp [List.getD,hlt])
   have hl12:(k:Int)<(l.length:Int):=by omega
   generalize l[k]=X at*
   have HBZ:=Lh (show b≠z by have:=HW.out.old;omega)
   have HC7:=Lh hc
   have HSA:=Lh (HW.out.drew.s8 (C7.drew0 hc))
   have HSB:=Lh ((HW.out.drew.put hml X).s8 (C7.far7 (C7.drew0 hc) HBZ.out (m*7) X))
   have HSC:=Lh ((HW.out.put hml X).drew.s8 (C7.drew0 (C7.far7 hc HBZ.out (m*7) X)))
   obtain ⟨⟨e0,e1,e2,e3,e4,e5,e6⟩,⟨g0,g1,g2,g3,g4,g5,g6⟩,q0,q1,q2,q3⟩:=HW.out.at_ hml
   have HFM:=Lh (show ∀ j,j<n→(fun i=>if i=m then X else f i) ((hd+j) % n)=if j<k+1 then l.getD j zM else zM from fun j hj=>by
    show (if (hd+j) % n=m then X else f ((hd+j) % n))=_
    by_cases e:j=k
    ·subst e
     rw [if_pos hm.symm,if_pos (by omega),HLX.out]
    ·rw [if_neg (fun h=>e (mod_inj hj (by omega) (h.trans hm))),HF.out j hj]
     by_cases h2:j<k
     ·rw [if_pos h2,if_pos (by omega)]
     ·rw [if_neg h2,if_neg (by omega)])
   clear hm hc hbb
   go_wp2
   go_region_held3 (fun W=>W.cell? ⟨y,0,none⟩=some (.slice (some ⟨z,0,none⟩) n n)∧W.cell? ⟨b,o+k*7,none⟩=some (.int .i64 X.id)∧W.cell? ⟨b,o+k*7+1,none⟩=some (.int .i64 X.rt)∧W.cell? ⟨b,o+k*7+2,none⟩=some (.int .i64 X.ep)∧W.cell? ⟨b,o+k*7+3,none⟩=some (.int .i64 X.ct)∧W.cell? ⟨b,o+k*7+4,none⟩=some (.int .i64 X.gn)∧W.cell? ⟨b,o+k*7+5,none⟩=some (.int .i64 X.st)∧W.cell? ⟨b,o+k*7+6,none⟩=some (.string X.bd))
    (first | with_reducible exact HSA.out | with_reducible exact HSB.out | with_reducible exact HSC.out)
    ((fail))
   have HP:=Lh (HW.out.put hml X).drew
   clear e0 e1 e2 e3 e4 e5 e6 g0 g1 g2 g3 g4 g5 g6 HSA HSB HSC hmt hhk hmi
   go_wp2
   go_roundw
   case rel=>exact ⟨k+1,_,by omega,by go_num,HP.out,HFM.out⟩
   case measure=>simp [intOf];omega
  ·obtain rfl:k=l.length:=by omega
   have HRF:=Lh (row_fil (n:=n) (hd:=hd) (g:=f) (l:=l) hn1 (fun j hj=>by
    rw [HF.out j hj]
    by_cases h:j<l.length
    ·rw [if_pos h]
    ·rw [if_neg h,List.getD_eq_getElem?_getD,List.getElem?_eq_none (by omega)];rfl))
   obtain ⟨t0,t1,t2,t3,t4,t5,hrl⟩:=HW.out.rs.facts
   have hry:r≠y:=by have:=HW.out.old;omega
   have hyr:y≠r:=fun e=>hry e.symm
   have HL:=Lh ((HW.out.row.set3 (r:=r) (by have:=HW.out.old;omega) (.slice (some ⟨z,0,none⟩) n n) (.int .i64 hd) (.int .i64 l.length)).ls' HRF.out (Nat.le_refl _) (by unfold maxLen;omega))
   have HB:=Lh (show Below w.heap.size w (((wr.setCell ⟨r,0,none⟩ (.slice (some ⟨z,0,none⟩) n n)).setCell ⟨r,1,none⟩ (.int .i64 hd)).setCell ⟨r,2,none⟩ (.int .i64 l.length)) from ((HW.out.bel.setCell (p:=⟨r,0,none⟩) HW.out.old.1 _).setCell (p:=⟨r,1,none⟩) HW.out.old.1 _).setCell (p:=⟨r,2,none⟩) HW.out.old.1 _)
   go_wp2
   exact bodyPost_ret (v:=.agg #[.slice (some ⟨z,0,none⟩) n n,.int .i64 hd,.int .i64 l.length]) (by simp only [results,Tryz.results177];go_simp <;> rfl) rfl ⟨some ⟨z,0,none⟩,n,by rw [HFL.out],nw_some (by have:=HW.out.old;omega),by rw [HFL.out];exact HL.out,HB.out⟩
end Go.Proofs.YtncgbldcjfbknaaGreat
