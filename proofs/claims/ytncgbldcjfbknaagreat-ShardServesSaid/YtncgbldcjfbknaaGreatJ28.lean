/- What is proved here: Table of the statements' base makes a valid table; (plain) a ring that a source has made; what keeps a list of messages beside a source; shardqueueref04.List and shardqueueref04.pushable by contracts; shardqueueref04.with by a contract; shardqueueref04.PushBack by a contract. -/
import Derived.Test.YtncgbldcjfbknaaGreatJ25
import Derived.Test.YtncgbldcjfbknaaGreatJ27
namespace Go.Proofs.YtncgbldcjfbknaaGreat
open Go.RowKit
set_option linter.unusedVariables false
theorem El.grownG {W W' : World} {g lo n c:Nat} {A:Option Addr} {l:List Le} (h:El W W.heap.size (.slice A n c) l) (hA:Nw lo A) (hg:g<lo) (hgr:W.grownBy W' (some g)):El W' W'.heap.size (.slice A n c) l:=by
 obtain ⟨A',c',e,hl,hm,hr⟩:=h
 injection e with e1 e2 e3
 subst e1;subst e3
 refine ⟨A,c,by rw [e2],hl,hm,hr.1,fun h0=>?_⟩
 obtain ⟨b,o,e,hb,hc⟩:=hr.2 h0
 have hlo:lo≤b:=hA _ e
 exact ⟨b,o,e,Nat.lt_of_lt_of_le hb hgr.size,fun j u hu=>(hgr.cell_far ⟨b,o+j,none⟩ hb (fun e'=>by injection e' with e';have e2:b=g:=e';omega)).trans (hc j u hu)⟩
theorem Dl.grownT {W W' : World} {g lo n c:Nat} {A:Option Addr} {l:List Du} (h:Dl W W.heap.size (.slice A n c) l) (hA:Nw lo A) (hg:g<lo) (hgr:W.grownBy W' (some g)):Dl W' W'.heap.size (.slice A n c) l:=by
 obtain ⟨A',c',e,hl,hm,hr⟩:=h
 injection e with e1 e2 e3
 subst e1;subst e3
 refine ⟨A,c,by rw [e2],hl,hm,hr.1,fun h0=>?_⟩
 obtain ⟨b,o,e,hb,hc⟩:=hr.2 h0
 have hlo:lo≤b:=hA _ e
 exact ⟨b,o,e,Nat.lt_of_lt_of_le hb hgr.size,fun j u hu=>(hgr.cell_far ⟨b,o+j,none⟩ hb (fun e'=>by injection e' with e';have e2:b=g:=e';omega)).trans (hc j u hu)⟩
theorem RT.grownG {W W' : World} {g r n c n2 c2:Nat} {A A2:Option Addr} (h:RT W r A n c A2 n2 c2) (hgr:W.grownBy W' (some g)) (hne:r≠g):RT W' r A n c A2 n2 c2:=
 ⟨(hgr.cell_far ⟨r,0,none⟩ h.lt (fun e=>hne (by injection e))).trans h.c0,(hgr.cell_far ⟨r,1,none⟩ h.lt (fun e=>hne (by injection e))).trans h.c1,(hgr.frozen_far ⟨r,0,none⟩ h.lt (fun e=>hne (by injection e))).trans h.f0,(hgr.frozen_far ⟨r,1,none⟩ h.lt (fun e=>hne (by injection e))).trans h.f1,Nat.lt_of_lt_of_le h.lt hgr.size⟩
theorem RT.put {W:World} {r n c n2 c2:Nat} {A A2:Option Addr} (h:RT W r A n c A2 n2 c2) (D:Option Addr) (m d:Nat) (D2:Option Addr) (m2 d2:Nat):RT (set2 W r (.slice D m d) (.slice D2 m2 d2)) r D m d D2 m2 d2:=by
 refine ⟨?_,?_,by rw [set2_frozen];exact h.f0,by rw [set2_frozen];exact h.f1,by rw [set2_size];exact h.lt⟩
 ·rw [World.cell?_setCell_other _ _ _ _ (fun e=>by injection e with _ e _;cases e),World.cell?_setCell_same' _ _ _ (by rw [h.c0];rfl)]
 ·rw [World.cell?_setCell_same' _ _ _ (by rw [World.cell?_setCell_other _ _ _ _ (fun e=>by injection e with _ e _;cases e),h.c1];rfl)]
theorem RT.far {W:World} {r y n c n2 c2:Nat} {A A2:Option Addr} (h:RT W r A n c A2 n2 c2) (hy:r≠y) (v v2:Value):RT (set2 W y v v2) r A n c A2 n2 c2:=
 ⟨(set2_far hy).trans h.c0,(set2_far hy).trans h.c1,by rw [set2_frozen];exact h.f0,by rw [set2_frozen];exact h.f1,by rw [set2_size];exact h.lt⟩
theorem tb_gr {l:List Le} {h:List Du} (t:TbOk l h) (X:Le):TbOk (grL l h X) (grH l h X):=by
 by_cases e:grE l h X=0
 ·obtain ⟨_,ok,hl,hf⟩:=grE_zero e
  unfold grL grH
  rw [if_pos e,if_pos e]
  exact t.grant ok ok.snd hl hf
 ·obtain ⟨h1,h2⟩:=grE_ne e
  rw [h1,h2]
  exact TbOk.nil
structure TaAt (w:World) (B g r y:Nat) (A:Option Addr) (c:Nat) (l:List Le) (A2:Option Addr) (c2:Nat) (h:List Du) (W:World):Prop where
 rs:RT W r none 0 0 none 0 0
 rb:RT W y A l.length c A2 h.length c2
 el:El W W.heap.size (.slice A l.length c) l
 dl:Dl W W.heap.size (.slice A2 h.length c2) h
 src:SrcAt W B g
 grow:w.grownBy W (some g)
 nw:Nw (y+1) A∧Nw (y+1) A2
 ne:g<w.heap.size∧w.heap.size≤r∧r<y
section
variable {w W W' : World} {B g r y c c2:Nat} {A A2:Option Addr} {l:List Le} {h:List Du}
theorem TaAt.grownG (k:TaAt w B g r y A c l A2 c2 h W) (hs:SrcAt W' B g) (hg:W.grownBy W' (some g)):TaAt w B g r y A c l A2 c2 h W':=
 ⟨k.rs.grownG hg (by have:=k.ne;omega),k.rb.grownG hg (by have:=k.ne;omega),k.el.grownG k.nw.1 (by have:=k.ne;omega) hg,k.dl.grownT k.nw.2 (by have:=k.ne;omega) hg,hs,k.grow.trans hg,k.nw,k.ne⟩
theorem TaAt.below (k:TaAt w B g r y A c l A2 c2 h W) (hb:Below W.heap.size W W'):TaAt w B g r y A c l A2 c2 h W':=
 ⟨k.rs.below hb k.rs.lt,k.rb.below hb k.rb.lt,k.el.up hb,k.dl.up hb,k.src.below hb,only_below k.grow hb,k.nw,k.ne⟩
theorem TaAt.drew (k:TaAt w B g r y A c l A2 c2 h W):TaAt w B g r y A c l A2 c2 h W.drew:=k.below ((Below.refl _ _).drew)
theorem TaAt.store {A5 A6:Option Addr} {c5 c6:Nat} {l5:List Le} {h5:List Du} (k:TaAt w B g r y A c l A2 c2 h W) (n5:Nw W.heap.size A5) (n6:Nw W.heap.size A6) (hb:Below W.heap.size W W') (h1:El W' W'.heap.size (.slice A5 l5.length c5) l5) (h2:Dl W' W'.heap.size (.slice A6 h5.length c6) h5) :
  TaAt w B g r y A5 c5 l5 A6 c6 h5 (set2 W' y (.slice A5 l5.length c5) (.slice A6 h5.length c6)):=by
 have k':=k.below hb
 have hy:=k.rb.lt
 have hne:=k.ne
 refine ⟨k'.rs.far (by omega) _ _,k'.rb.put _ _ _ _ _ _,(h1.set2 n5 hy).more (by simp),(h2.set2 n6 hy).more (by simp),?_,?_,⟨nw_low n5 hy,nw_low n6 hy⟩,hne⟩
 ·have hB:B≤g:=k.src.1
  exact (k'.src.other (p:=⟨y,0,none⟩) (show y≠g by omega) (show B≤y by omega) _).other (p:=⟨y,1,none⟩) (show y≠g by omega) (show B≤y by omega) _
 ·exact only_set (only_set k'.grow (p:=⟨y,0,none⟩) (.inr (show w.heap.size≤y by omega)) _) (p:=⟨y,1,none⟩) (.inr (show w.heap.size≤y by omega)) _
end
theorem RMs.grownG {W W' : World} {g r:Nat} {M:Msg} (h:RMs W r M) (hg:W.grownBy W' (some g)) (hne:r≠g):RMs W' r M:=
 have hl:=h.lt
 have c:∀ o,W'.cell? ⟨r,o,none⟩=W.cell? ⟨r,o,none⟩:=fun o=>hg.cell_far ⟨r,o,none⟩ hl (fun e=>hne (by injection e))
 have f:∀ o,W'.frozen? ⟨r,o,none⟩=W.frozen? ⟨r,o,none⟩:=fun o=>hg.frozen_far ⟨r,o,none⟩ hl (fun e=>hne (by injection e))
 ⟨(c 0).trans h.1,(c 1).trans h.2.1,(c 2).trans h.2.2.1,(c 3).trans h.2.2.2.1,(c 4).trans h.2.2.2.2.1,(c 5).trans h.2.2.2.2.2.1,(c 6).trans h.2.2.2.2.2.2.1,(f 0).trans h.2.2.2.2.2.2.2.1,(f 1).trans h.2.2.2.2.2.2.2.2.1,(f 2).trans h.2.2.2.2.2.2.2.2.2.1,(f 3).trans h.2.2.2.2.2.2.2.2.2.2.1,(f 4).trans h.2.2.2.2.2.2.2.2.2.2.2.1,(f 5).trans h.2.2.2.2.2.2.2.2.2.2.2.2.1,(f 6).trans h.2.2.2.2.2.2.2.2.2.2.2.2.2.1,Nat.lt_of_lt_of_le hl hg.size⟩
def Off (b:Nat) (A:Option Addr):Prop:=∀ a,A=some a→a.block≠b
theorem off_nw {b lo:Nat} {A:Option Addr} (h:Nw lo A) (hb:b<lo):Off b A:=fun a e=>by have:=h a e;omega
theorem off_ls {W:World} {B n c:Nat} {A:Option Addr} {l:List Msg} (h:Ls W B (.slice A n c) l) (hl:0<l.length) {b:Nat} (hb:B≤b):Off b A:=fun a e=>by
 obtain ⟨b',o,e',hb',_⟩:=h.rd.2 (by rw [h.len.1];exact hl)
 rw [e'] at e
 injection e with e
 subst e
 show b'≠b
 omega
theorem Ls.off' {W:World} {B n c:Nat} {A:Option Addr} {l:List Msg} (h:Ls W B (.slice A n c) l) {p:Addr} (hA:Off p.block A) (v:Value):Ls (W.setCell p v) B (.slice A n c) l:=by
 obtain ⟨A',c',e,hl,hm,hr⟩:=h
 injection e with e1 e2 e3
 subst e1;subst e3
 refine ⟨A,c,by rw [e2],hl,hm,hr.1,fun h0=>?_⟩
 obtain ⟨b,o,e,hb,hc⟩:=hr.2 h0
 have hlo:=hA _ e
 exact ⟨b,o,e,hb,fun j u hu=>(World.cell?_setCell_other W p ⟨b,o+j,none⟩ v (fun e'=>hlo (congrArg Addr.block e').symm)).trans (hc j u hu)⟩
theorem Ls.grownG {W W' : World} {B n c g:Nat} {A:Option Addr} {l:List Msg} (h:Ls W B (.slice A n c) l) (hg:W.grownBy W' (some g)) (hB:B≤W.heap.size) (hA:Off g A):Ls W' B (.slice A n c) l:=by
 obtain ⟨A',c',e,hl,hm,hr⟩:=h
 injection e with e1 e2 e3
 subst e1;subst e3
 refine ⟨A,c,by rw [e2],hl,hm,hr.1,fun h0=>?_⟩
 obtain ⟨b,o,e,hb,hc⟩:=hr.2 h0
 have hlo:=hA _ e
 exact ⟨b,o,e,hb,fun j u hu=>(hg.cell_far ⟨b,o+j,none⟩ (Nat.lt_of_lt_of_le hb hB) (fun e'=>hlo (by injection e'))).trans (hc j u hu)⟩
theorem RB.grownG {W W' : World} {p n c g:Nat} {A:Option Addr} {hd sz:Int} (h:RB W p A n c hd sz) (hg:W.grownBy W' (some g)) (hp:p≠g):RB W' p A n c hd sz:=by
 have e:∀ o,W'.cell? ⟨p,o,none⟩=W.cell? ⟨p,o,none⟩:=fun o=>hg.cell_far ⟨p,o,none⟩ h.lt (fun e=>hp (by injection e))
 exact ⟨Nat.lt_of_lt_of_le h.lt hg.size,(e 0).trans h.c0,(e 1).trans h.c1,(e 2).trans h.c2,fun o=>(hg.frozen_far ⟨p,o,none⟩ h.lt (fun e=>hp (by injection e))).trans (h.fr o)⟩
theorem into_span (r l h:Int) (r0:0≤r) (r1:r≤65535) (l0:0≤l) (h1:h≤65535) (hlh:l≤h):l≤intoF r l h∧intoF r l h≤h:=by
 have hA:areB r l h=true:=decide_eq_true ⟨⟨r0,r1⟩,⟨l0,by omega⟩,⟨by omega,h1⟩⟩
 have hm0:0≤r % (h - l+1):=Int.emod_nonneg _ (by omega)
 have hm1:r % (h - l+1)<h - l+1:=Int.emod_lt_of_pos _ (by omega)
 unfold intoF
 rw [if_pos ⟨hA,hlh⟩]
 split <;> omega
theorem msg_ok {M:Msg} {id lo hi:Int} (h0:M.id=id) (h1:M.rt=intoF (rtF id) lo hi) (h2:0≤M.ep∧M.ep≤2) (h3:0≤M.ct∧M.ct≤3) (h4:M.ct≤M.gn∧M.gn≤65536) (h5:0≤M.st∧M.st≤49) (h6:M.bd.size≤3) (i1:1≤id) (i2:id≤1073741824) (l0:0≤lo) (l1:lo≤hi) (l2:hi≤65535):vf M=0:=by
 have hr:=rtF_lt id
 have:=into_span (rtF id) lo hi hr.1 hr.2 l0 l2 l1
 exact ok_vf ⟨by omega,by omega,by omega,by omega,by omega,by omega,by omega⟩
set_option maxHeartbeats 2000000 in
theorem rlist_any (A:Option Addr) (n c:Nat) (cs:List Msg) (hd sz:Int) (w:World) (hv:Ls w w.heap.size (.slice A n c) cs) :
  Calls Tryz.prog 117 #[.agg #[.slice A n c,.int .i64 hd,.int .i64 sz]] w (LsP (lsF cs hd sz) w):=by
 obtain ⟨rfl,_,_⟩:=hv.len
 have HV:=Lh hv
 have HS:=Lh (RgAt.start w A cs.length c hd sz 27)
 have HG:=Lh (fun w1 (h:Ls w1 w1.heap.size (.slice A cs.length c) cs)=>rvalid_any A cs.length c cs hd sz w1 h)
 clear hv
 by_cases h0:rgV cs hd sz=0
 ·obtain ⟨hn,_,_,_⟩:=rgV_zero h0
  obtain ⟨⟨n1,n2⟩,⟨h1,h2⟩,⟨s1,s2⟩⟩:=nm_of hn
  obtain ⟨hd,rfl⟩:=Int.eq_ofNat_of_zero_le h1
  obtain ⟨sz,rfl⟩:=Int.eq_ofNat_of_zero_le s1
  have HO:=Lh (fun w1 (h:Ls w1 w1.heap.size (.slice A cs.length c) cs)=>rorder_any A cs.length c cs hd sz w1 h hn)
  have HF:=Lh (show lsF cs hd sz=ord cs hd sz from if_pos h0)
  rw [h0] at HG
  clear h0 hn n1 n2 h1 h2 s1 s2
  go_enter Tryz.func117,Tryz.ntmps117
  go_wp2_with fail
  refine (HG.out _ ((HV.out.below HS.out.bel).more HS.out.bel.size)).mono ?_
  rintro e w1 ⟨rfl,hb⟩
  have HR1:=Lh (HS.out.below hb)
  obtain ⟨r0,r1,r2,hp⟩:=HR1.out.facts
  clear hb
  go_wp2_with fail
  refine (HO.out _ ((HV.out.below HR1.out.bel).more HR1.out.bel.size)).mono ?_
  rintro e w2 ⟨v,rfl,hnw,hl,hb⟩
  have HNV:=Lh (nwv_low hnw HR1.out.bel.size)
  clear hnw
  have HL:=Lh hl
  have HB:=Lh (HR1.out.bel.trans (hb.mono HR1.out.bel.size))
  clear hl hb
  go_wp2
  go_ret
  exact ⟨_,rfl,HNV.out,by rw [HF.out];exact HL.out,HB.out⟩
 ·have HF:=Lh (show lsF cs hd sz=[] from if_neg h0)
  have hne:(rgV cs hd sz != 0)=true:=bne_iff_ne.2 h0
  generalize rgV cs hd sz=x at*
  clear h0
  go_enter Tryz.func117,Tryz.ntmps117
  go_wp2_with fail
  refine (HG.out _ ((HV.out.below HS.out.bel).more HS.out.bel.size)).mono ?_
  rintro e w1 ⟨rfl,hb⟩
  have HR1:=Lh (HS.out.below hb)
  clear hb
  go_wp2
  go_ret
  exact ⟨_,rfl,nwv_mk nw_none,by rw [HF.out];exact Ls.nil,HR1.out.bel⟩
set_option maxHeartbeats 4000000 in
theorem pushable_any (A:Option Addr) (n c:Nat) (cs:List Msg) (hd sz:Int) (M:Msg) (w:World) (hv:Ls w w.heap.size (.slice A n c) cs) :
  Calls Tryz.prog 176 #[.agg #[.slice A n c,.int .i64 hd,.int .i64 sz],M.v] w (VlT w (puE cs hd sz M)):=by
 obtain ⟨rfl,_,_⟩:=hv.len
 have HV:=Lh hv
 have HS:=Lh (RmAt.start w A cs.length c hd sz M 27 56)
 have HG:=Lh (fun w1 (h:Ls w1 w1.heap.size (.slice A cs.length c) cs)=>rvalid_any A cs.length c cs hd sz w1 h)
 have HM:=Lh (fun w1=>rvalidate_any M w1)
 clear hv
 by_cases h0:rgV cs hd sz=0
 ·by_cases h1:vf M=0
  ·by_cases h2:sz=cs.length
   ·have HF:=Lh (show puE cs hd sz M=3 by unfold puE;rw [if_neg (by simpa using h0),if_neg (by simpa using h1),if_pos h2])
    rw [h0] at HG
    rw [h1] at HM
    subst h2
    clear h0 h1
    go_enter Tryz.func176,Tryz.ntmps176
    go_wp2_with fail
    refine (HG.out _ (HV.out.up HS.out.rg.bel)).mono ?_
    rintro e w1 ⟨rfl,hb⟩
    have HR1:=Lh (HS.out.below hb)
    obtain ⟨⟨r0,r1,r2,hp⟩,⟨m0,m1,m2,m3,m4,m5,m6⟩,hq⟩:=HR1.out.facts
    clear hb
    go_wp2_with fail
    refine (HM.out _).mono ?_
    rintro e w2 ⟨rfl,hb⟩
    have HR2:=Lh (HR1.out.below hb)
    clear hb r0 r1 r2 hp m0 m1 m2 m3 m4 m5 m6 hq
    obtain ⟨⟨r0,r1,r2,hp⟩,⟨m0,m1,m2,m3,m4,m5,m6⟩,hq⟩:=HR2.out.facts
    go_wp2
    go_ret
    exact ⟨ret_i64 HF.out.symm,HR2.out.rg.bel⟩
   ·have h2' : (sz==(cs.length:Int))=false:=beq_eq_false_iff_ne.2 h2
    obtain ⟨hn,_,_,_⟩:=rgV_zero h0
    obtain ⟨⟨n1,n2⟩,⟨k1,k2⟩,⟨s1,s2⟩⟩:=nm_of hn
    obtain ⟨hd,rfl⟩:=Int.eq_ofNat_of_zero_le k1
    obtain ⟨sz,rfl⟩:=Int.eq_ofNat_of_zero_le s1
    have HO:=Lh (fun w1 (h:Ls w1 w1.heap.size (.slice A cs.length c) cs)=>rorder_any A cs.length c cs hd sz w1 h hn)
    have HF:=Lh (show puE cs hd sz M=if 0≤ixF (ord cs hd sz) M.id then 10 else 0 by unfold puE;rw [if_neg (by simpa using h0),if_neg (by simpa using h1),if_neg h2];simp only [Int.toNat_natCast])
    have HFI:=Lh (fun v w1 (h:Ls w1 w1.heap.size v (ord cs hd sz))=>(show ∃ A' n' c',v=.slice A' n' c' from by obtain ⟨A',c',e,_⟩:=h.form;exact ⟨A',_,c',e⟩))
    have HFN:=Lh (fun A' n' c' w1 (h:Ls w1 w1.heap.size (.slice A' n' c') (ord cs hd sz))=>rindex_any A' n' c' (ord cs hd sz) M.id w1 w1.heap.size h)
    have HIL:=Lh (ixF_lt (ord cs hd sz) M.id).1
    generalize ixF (ord cs hd sz) M.id=r at*
    generalize ord cs hd sz=l at*
    rw [h0] at HG
    rw [h1] at HM
    clear h0 h1 h2 hn n1 n2 k1 k2 s1 s2
    by_cases hr:0≤r
    ·have HF':=Lh (HF.out.trans (if_pos hr))
     go_enter Tryz.func176,Tryz.ntmps176
     go_wp2_with fail
     refine (HG.out _ (HV.out.up HS.out.rg.bel)).mono ?_
     rintro e w1 ⟨rfl,hb⟩
     have HR1:=Lh (HS.out.below hb)
     obtain ⟨⟨r0,r1,r2,hp⟩,⟨m0,m1,m2,m3,m4,m5,m6⟩,hq⟩:=HR1.out.facts
     clear hb
     go_wp2_with fail
     refine (HM.out _).mono ?_
     rintro e w2 ⟨rfl,hb⟩
     have HR2:=Lh (HR1.out.below hb)
     clear hb r0 r1 r2 hp m0 m1 m2 m3 m4 m5 m6 hq
     obtain ⟨⟨r0,r1,r2,hp⟩,⟨m0,m1,m2,m3,m4,m5,m6⟩,hq⟩:=HR2.out.facts
     go_wp2
     go_region_with (first
      | (go_at_call 112;refine (HO.out _ (HV.out.up HR2.out.drew.rg.bel)).mono ?_;rintro e w3 ⟨v,rfl,hnw,hl,hb⟩;clear hnw;obtain ⟨A3,n3,c3,rfl⟩:=HFI.out _ _ hl;have HR3:=Lh (HR2.out.drew.below hb);have HL3:=Lh hl;obtain ⟨⟨t0,t1,t2,hp3⟩,⟨x0,x1,x2,x3,x4,x5,x6⟩,hq3⟩:=HR3.out.facts;clear hl hb)
      | (go_at_call 28;refine (HFN.out _ _ _ _ HL3.out).mono ?_;rintro e w4 ⟨rfl,rfl⟩;have HR4:=HR3))
     all_goals
      go_wp2
      go_ret
      exact ⟨ret_i64 HF'.out.symm,HR4.out.rg.bel⟩
    ·have HF':=Lh (HF.out.trans (if_neg hr))
     have hr1:r = -1:=by have:=HIL.out;omega
     subst hr1
     clear hr
     go_enter Tryz.func176,Tryz.ntmps176
     go_wp2_with fail
     refine (HG.out _ (HV.out.up HS.out.rg.bel)).mono ?_
     rintro e w1 ⟨rfl,hb⟩
     have HR1:=Lh (HS.out.below hb)
     obtain ⟨⟨r0,r1,r2,hp⟩,⟨m0,m1,m2,m3,m4,m5,m6⟩,hq⟩:=HR1.out.facts
     clear hb
     go_wp2_with fail
     refine (HM.out _).mono ?_
     rintro e w2 ⟨rfl,hb⟩
     have HR2:=Lh (HR1.out.below hb)
     clear hb r0 r1 r2 hp m0 m1 m2 m3 m4 m5 m6 hq
     obtain ⟨⟨r0,r1,r2,hp⟩,⟨m0,m1,m2,m3,m4,m5,m6⟩,hq⟩:=HR2.out.facts
     go_wp2
     go_region_with (first
      | (go_at_call 112;refine (HO.out _ (HV.out.up HR2.out.drew.rg.bel)).mono ?_;rintro e w3 ⟨v,rfl,hnw,hl,hb⟩;clear hnw;obtain ⟨A3,n3,c3,rfl⟩:=HFI.out _ _ hl;have HR3:=Lh (HR2.out.drew.below hb);have HL3:=Lh hl;obtain ⟨⟨t0,t1,t2,hp3⟩,⟨x0,x1,x2,x3,x4,x5,x6⟩,hq3⟩:=HR3.out.facts;clear hl hb)
      | (go_at_call 28;refine (HFN.out _ _ _ _ HL3.out).mono ?_;rintro e w4 ⟨rfl,rfl⟩;have HR4:=HR3))
     all_goals
      go_wp2
      go_ret
      exact ⟨ret_i64 HF'.out.symm,HR4.out.rg.bel⟩
  ·have HF:=Lh (show puE cs hd sz M=vf M by unfold puE;rw [if_neg (by simpa using h0),if_pos h1])
   have hne:(vf M != 0)=true:=bne_iff_ne.2 h1
   generalize vf M=x at*
   rw [h0] at HG
   clear h0 h1
   go_enter Tryz.func176,Tryz.ntmps176
   go_wp2_with fail
   refine (HG.out _ (HV.out.up HS.out.rg.bel)).mono ?_
   rintro e w1 ⟨rfl,hb⟩
   have HR1:=Lh (HS.out.below hb)
   obtain ⟨⟨r0,r1,r2,hp⟩,⟨m0,m1,m2,m3,m4,m5,m6⟩,hq⟩:=HR1.out.facts
   clear hb
   go_wp2_with fail
   refine (HM.out _).mono ?_
   rintro e w2 ⟨rfl,hb⟩
   have HR2:=Lh (HR1.out.below hb)
   clear hb r0 r1 r2 hp m0 m1 m2 m3 m4 m5 m6 hq
   go_wp2
   go_ret
   exact ⟨ret_i64 HF.out.symm,HR2.out.rg.bel⟩
 ·have HF:=Lh (show puE cs hd sz M=rgV cs hd sz from if_pos h0)
  have hne:(rgV cs hd sz != 0)=true:=bne_iff_ne.2 h0
  generalize rgV cs hd sz=x at*
  clear h0
  go_enter Tryz.func176,Tryz.ntmps176
  go_wp2_with fail
  refine (HG.out _ (HV.out.up HS.out.rg.bel)).mono ?_
  rintro e w1 ⟨rfl,hb⟩
  have HR1:=Lh (HS.out.below hb)
  clear hb
  go_wp2
  go_ret
  exact ⟨ret_i64 HF.out.symm,HR1.out.rg.bel⟩
def WiP (w:World) (cs:List Msg) (hd sz:Int) (e:Ending) (w' : World):Prop:=∃ A c,e=.returned (.agg #[.slice A cs.length c,.int .i64 hd,.int .i64 sz])∧Nw w.heap.size A∧Ls w' w'.heap.size (.slice A cs.length c) cs∧Below w.heap.size w w'
theorem C7.drew0 {W:World} {b m:Nat} {M:Msg} (h:C7 W b m M):C7 W.drew b m M:=h
theorem C7.far7 {W:World} {b m q:Nat} {M:Msg} (k:C7 W b m M) (hb:b≠q) (x:Nat) (X:Msg):C7 (((((((W.setCell ⟨q,x,none⟩ (.int .i64 X.id)).setCell ⟨q,x+1,none⟩ (.int .i64 X.rt)).setCell ⟨q,x+2,none⟩ (.int .i64 X.ep)).setCell ⟨q,x+3,none⟩ (.int .i64 X.ct)).setCell ⟨q,x+4,none⟩ (.int .i64 X.gn)).setCell ⟨q,x+5,none⟩ (.int .i64 X.st)).setCell ⟨q,x+6,none⟩ (.string X.bd)) b m M:=by
 have e:∀ o,(((((((W.setCell ⟨q,x,none⟩ (.int .i64 X.id)).setCell ⟨q,x+1,none⟩ (.int .i64 X.rt)).setCell ⟨q,x+2,none⟩ (.int .i64 X.ep)).setCell ⟨q,x+3,none⟩ (.int .i64 X.ct)).setCell ⟨q,x+4,none⟩ (.int .i64 X.gn)).setCell ⟨q,x+5,none⟩ (.int .i64 X.st)).setCell ⟨q,x+6,none⟩ (.string X.bd)).cell? ⟨b,o,none⟩=W.cell? ⟨b,o,none⟩:=fun o=>sets_far (W:=W) (q:=q) (p:=⟨b,o,none⟩) hb x X.l
 obtain ⟨c0,c1,c2,c3,c4,c5,c6⟩:=k
 exact ⟨(e _).trans c0,(e _).trans c1,(e _).trans c2,(e _).trans c3,(e _).trans c4,(e _).trans c5,(e _).trans c6⟩
structure WiAt (w:World) (r z y:Nat) (n:Nat) (hd sz:Int) (f:Nat→Msg) (W:World):Prop where
 rs:RB W r none 0 0 0 0
 row:MRow W z n f
 rb:RB W y (some ⟨z,0,none⟩) n n hd sz
 bel:Below w.heap.size w W
 old:w.heap.size≤r∧r<z∧z<y
section
variable {w W W' : World} {r z y n:Nat} {hd sz:Int} {f:Nat→Msg}
theorem WiAt.drew (h:WiAt w r z y n hd sz f W):WiAt w r z y n hd sz f W.drew:=⟨h.rs.drew,h.row,h.rb.drew,h.bel.drew,h.old⟩
theorem WiAt.put (h:WiAt w r z y n hd sz f W) {k:Nat} (hk:k<n) (M:Msg):WiAt w r z y n hd sz (fun i=>if i=k then M else f i) (((((((W.setCell ⟨z,k*7,none⟩ (.int .i64 M.id)).setCell ⟨z,k*7+1,none⟩ (.int .i64 M.rt)).setCell ⟨z,k*7+2,none⟩ (.int .i64 M.ep)).setCell ⟨z,k*7+3,none⟩ (.int .i64 M.ct)).setCell ⟨z,k*7+4,none⟩ (.int .i64 M.gn)).setCell ⟨z,k*7+5,none⟩ (.int .i64 M.st)).setCell ⟨z,k*7+6,none⟩ (.string M.bd)):=
 ⟨h.rs.sets (by have:=h.old;omega) (k*7) M.l,h.row.put7n hk M,h.rb.sets (by have:=h.old;omega) (k*7) M.l,sets_below (by have:=h.old;omega) M.l (k*7) W h.bel,h.old⟩
theorem WiAt.at_ (h:WiAt w r z y n hd sz f W) {k:Nat} (hk:k<n):C7 W z (k*7) (f k)∧(W.frozen? ⟨z,k*7,none⟩=false∧W.frozen? ⟨z,k*7+1,none⟩=false∧W.frozen? ⟨z,k*7+2,none⟩=false∧W.frozen? ⟨z,k*7+3,none⟩=false∧W.frozen? ⟨z,k*7+4,none⟩=false∧W.frozen? ⟨z,k*7+5,none⟩=false∧W.frozen? ⟨z,k*7+6,none⟩=false)∧z<W.heap.size∧y<W.heap.size∧z≠y∧y≠z:=
 ⟨h.row.c7 hk,h.row.free _,h.row.1,h.rb.lt,by have:=h.old;omega,by have:=h.old;omega⟩
theorem WiAt.s8 (h:WiAt w r z y n hd sz f W) {b m:Nat} {X:Msg} (hc:C7 W b m X):W.cell? ⟨y,0,none⟩=some (.slice (some ⟨z,0,none⟩) n n)∧W.cell? ⟨b,m,none⟩=some (.int .i64 X.id)∧W.cell? ⟨b,m+1,none⟩=some (.int .i64 X.rt)∧W.cell? ⟨b,m+2,none⟩=some (.int .i64 X.ep)∧W.cell? ⟨b,m+3,none⟩=some (.int .i64 X.ct)∧W.cell? ⟨b,m+4,none⟩=some (.int .i64 X.gn)∧W.cell? ⟨b,m+5,none⟩=some (.int .i64 X.st)∧W.cell? ⟨b,m+6,none⟩=some (.string X.bd):=⟨h.rb.c0,hc⟩
theorem WiAt.start (w:World) (o:Obj) (n:Nat) (hd sz:Int) (t u:TypeId):WiAt w (w.heap.size+1) (w.heap.size+1+1) (w.heap.size+1+1+1) n hd sz (fun _=>zM) ((((w.alloc o).alloc (.cells #[.slice none 0 0,.int .i64 0,.int .i64 0] t)).alloc (.cells (madeCells (Msg.v zM).cells (n*7)) u)).alloc (.cells #[.slice (some ⟨w.heap.size+1+1,0,none⟩) n n,.int .i64 hd,.int .i64 sz] t)):=by
 have e:(w.alloc o).heap.size=w.heap.size+1:=by simp
 have e2:((w.alloc o).alloc (.cells #[.slice none 0 0,.int .i64 0,.int .i64 0] t)).heap.size=w.heap.size+1+1:=by simp
 have e3:(((w.alloc o).alloc (.cells #[.slice none 0 0,.int .i64 0,.int .i64 0] t)).alloc (.cells (madeCells (Msg.v zM).cells (n*7)) u)).heap.size=w.heap.size+1+1+1:=by simp
 have k:=RB.fresh (w.alloc o) none 0 0 0 0 t
 have h:=MRow.made ((w.alloc o).alloc (.cells #[.slice none 0 0,.int .i64 0,.int .i64 0] t)) n u
 have g:=RB.fresh (((w.alloc o).alloc (.cells #[.slice none 0 0,.int .i64 0,.int .i64 0] t)).alloc (.cells (madeCells (Msg.v zM).cells (n*7)) u)) (some ⟨w.heap.size+1+1,0,none⟩) n n hd sz t
 rw [e] at k
 rw [e2] at h
 rw [e3] at g
 exact ⟨(k.alloc _).alloc _,h.alloc _,g,((((Below.refl _ _).alloc (Nat.le_refl _) _).alloc (by omega) _).alloc (by omega) _).alloc (by omega) _,by omega,Nat.lt_succ_self _,Nat.lt_succ_self _⟩
end
attribute [local go_sem ↓] Go.wp_at_zero Go.wp_at_succ
set_option maxHeartbeats 4000000 in
set_option maxRecDepth 20000 in
theorem with_any (A:Option Addr) (n c:Nat) (hd0 sz0:Int) (hd:Nat) (A' : Option Addr) (n' c' : Nat) (l:List Msg) (w:World) (hn1:hd<n) (hn2:n≤12) (hln:l.length≤n) (hv:Ls w w.heap.size (.slice A' n' c') l) :
  Calls Tryz.prog 177 #[.agg #[.slice A n c,.int .i64 hd0,.int .i64 sz0],.int .i64 hd,.slice A' n' c'] w (WiP w (fil n hd l) hd l.length):=by
 obtain ⟨rfl,_,_⟩:=hv.len
 have HV:=Lh hv
 have hmk:=run_make_msgs n (by omega)
 have hn0:0<n:=by omega
 have HFL:=Lh (fil_len n hd l)
 have hnl:¬(n=0):=by omega
 have hn12:(n:Int)≤12:=by omega
 have hh12:(hd:Int)<(n:Int):=by omega
 clear hv
 go_enter Tryz.func177,Tryz.ntmps177
 go_wp2
 have HS:=Lh (WiAt.start w (.cells #[.slice A n c,.int .i64 hd0,.int .i64 sz0] 27) n hd l.length 27 56)
 obtain ⟨r,hr⟩:∃ r,r=w.heap.size+1:=⟨_,rfl⟩
 obtain ⟨z,hz⟩:∃ z,z=w.heap.size+1+1:=⟨_,rfl⟩
 obtain ⟨y,hy⟩:∃ y,y=w.heap.size+1+1+1:=⟨_,rfl⟩
 rw [←hy,←hz,←hr] at HS ⊢
 clear hr hz hy hmk
 go_loopw [8] (fun i wr=>∃ (k:Nat) (f:Nat→Msg),k≤l.length∧i=.int .i64 k∧WiAt w r z y n hd l.length f wr∧∀ j,j<n→f ((hd+j) % n)=if j<k then l.getD j zM else zM) (fun i _=>l.length - (intOf i).toNat)
 case atStart=>exact ⟨0,_,by omega,rfl,HS.out,fun j hj=>by rw [if_neg (by omega)]⟩
 case round=>
  obtain ⟨k,f,hk,rfl,hw,hf⟩:=hrel
  have HW:=Lh hw
  have HF:=Lh hf
  obtain ⟨r0,r1,r2,r3,r4,r5,hpl⟩:=hw.rb.facts
  clear hw hf
  by_cases hlt:k<l.length
  ·obtain ⟨m,hm⟩:∃ m,m=(hd+k) % n:=⟨_,rfl⟩
   have hml:m<n:=by rw [hm];exact Nat.mod_lt _ hn0
   have hmi:((hd:Int)+(k:Int)) % (n:Int)=(m:Int):=by rw [hm];simp
   have hk12:(k:Int)≤12:=by omega
   have hhk:IntKind.i64.wrap ((hd:Int)+(k:Int))=(hd:Int)+(k:Int):=IntWalk.i64_in _ (by omega)
   have hmt:((hd:Int)+(k:Int)).tmod (n:Int)=(m:Int):=by rw [Int.tmod_eq_emod_of_nonneg (show 0≤(hd:Int)+(k:Int) by omega)];exact hmi
   have hml' : (m:Int)<(n:Int):=by omega
   obtain ⟨b,o,rfl,hbb,hc⟩:=(HV.out.below HW.out.bel).at_ hlt
   have HLX:=Lh (show l.getD k zM=l[k] by simp [List.getD,hlt])
   have hl12:(k:Int)<(l.length:Int):=by omega
   generalize l[k]=X at*
   have HBZ:=Lh (show b≠z by have:=HW.out.old;omega)
   have HC7:=Lh hc
   have HSA:=Lh (HW.out.drew.s8 (C7.drew0 hc))
   have HSB:=Lh ((HW.out.drew.put hml X).s8 (C7.far7 (C7.drew0 hc) HBZ.out (m*7) X))
   have HSC:=Lh ((HW.out.put hml X).drew.s8 (C7.drew0 (C7.far7 hc HBZ.out (m*7) X)))
   obtain ⟨⟨e0,e1,e2,e3,e4,e5,e6⟩,⟨g0,g1,g2,g3,g4,g5,g6⟩,q0,q1,q2,q3⟩:=HW.out.at_ hml
   have HFM:=Lh (show ∀ j,j<n→(fun i=>if i=m then X else f i) ((hd+j) % n)=if j<k+1 then l.getD j zM else zM from fun j hj=>by
    show (if (hd+j) % n=m then X else f ((hd+j) % n))=_
    by_cases e:j=k
    ·subst e
     rw [if_pos hm.symm,if_pos (by omega),HLX.out]
    ·rw [if_neg (fun h=>e (mod_inj hj (by omega) (h.trans hm))),HF.out j hj]
     by_cases h2:j<k
     ·rw [if_pos h2,if_pos (by omega)]
     ·rw [if_neg h2,if_neg (by omega)])
   clear hm hc hbb
   go_wp2
   go_region_held3 (fun W=>W.cell? ⟨y,0,none⟩=some (.slice (some ⟨z,0,none⟩) n n)∧W.cell? ⟨b,o+k*7,none⟩=some (.int .i64 X.id)∧W.cell? ⟨b,o+k*7+1,none⟩=some (.int .i64 X.rt)∧W.cell? ⟨b,o+k*7+2,none⟩=some (.int .i64 X.ep)∧W.cell? ⟨b,o+k*7+3,none⟩=some (.int .i64 X.ct)∧W.cell? ⟨b,o+k*7+4,none⟩=some (.int .i64 X.gn)∧W.cell? ⟨b,o+k*7+5,none⟩=some (.int .i64 X.st)∧W.cell? ⟨b,o+k*7+6,none⟩=some (.string X.bd))
    (first | with_reducible exact HSA.out | with_reducible exact HSB.out | with_reducible exact HSC.out)
    ((fail))
   have HP:=Lh (HW.out.put hml X).drew
   clear e0 e1 e2 e3 e4 e5 e6 g0 g1 g2 g3 g4 g5 g6 HSA HSB HSC hmt hhk hmi
   go_wp2
   go_roundw
   case rel=>exact ⟨k+1,_,by omega,by go_num,HP.out,HFM.out⟩
   case measure=>simp [intOf];omega
  ·obtain rfl:k=l.length:=by omega
   have HRF:=Lh (row_fil (n:=n) (hd:=hd) (g:=f) (l:=l) hn1 (fun j hj=>by
    rw [HF.out j hj]
    by_cases h:j<l.length
    ·rw [if_pos h]
    ·rw [if_neg h,List.getD_eq_getElem?_getD,List.getElem?_eq_none (by omega)];rfl))
   obtain ⟨t0,t1,t2,t3,t4,t5,hrl⟩:=HW.out.rs.facts
   have hry:r≠y:=by have:=HW.out.old;omega
   have hyr:y≠r:=fun e=>hry e.symm
   have HL:=Lh ((HW.out.row.set3 (r:=r) (by have:=HW.out.old;omega) (.slice (some ⟨z,0,none⟩) n n) (.int .i64 hd) (.int .i64 l.length)).ls' HRF.out (Nat.le_refl _) (by unfold maxLen;omega))
   have HB:=Lh (show Below w.heap.size w (((wr.setCell ⟨r,0,none⟩ (.slice (some ⟨z,0,none⟩) n n)).setCell ⟨r,1,none⟩ (.int .i64 hd)).setCell ⟨r,2,none⟩ (.int .i64 l.length)) from ((HW.out.bel.setCell (p:=⟨r,0,none⟩) HW.out.old.1 _).setCell (p:=⟨r,1,none⟩) HW.out.old.1 _).setCell (p:=⟨r,2,none⟩) HW.out.old.1 _)
   go_wp2
   exact bodyPost_ret (v:=.agg #[.slice (some ⟨z,0,none⟩) n n,.int .i64 hd,.int .i64 l.length]) (by simp only [results,Tryz.results177];go_simp <;> rfl) rfl ⟨some ⟨z,0,none⟩,n,by rw [HFL.out],nw_some (by have:=HW.out.old;omega),by rw [HFL.out];exact HL.out,HB.out⟩
section
variable {w W W' : World} {p q r n c:Nat} {A:Option Addr} {hd sz:Int} {M:Msg}
theorem RB.grown (h:RB W p A n c hd sz) {row:Option Nat} (hg:W.grownBy W' row) (hr:row≠some p):RB W' p A n c hd sz:=by
 have e:∀ o,W'.cell? ⟨p,o,none⟩=W.cell? ⟨p,o,none⟩:=fun o=>hg.cell_far ⟨p,o,none⟩ h.lt (fun e=>hr e.symm)
 exact ⟨Nat.lt_of_lt_of_le h.lt hg.size,(e 0).trans h.c0,(e 1).trans h.c1,(e 2).trans h.c2,fun o=>(hg.frozen_far ⟨p,o,none⟩ h.lt (fun e=>hr e.symm)).trans (h.fr o)⟩
theorem MAt.grown' {f:Nat→Int} {b:ByteArray} (h:MAt W q f b) {row:Option Nat} (hg:W.grownBy W' row) (hr:row≠some q):MAt W' q f b:=
 ⟨Nat.lt_of_lt_of_le h.1 hg.size,fun j hj=>(hg.cell_far ⟨q,j,none⟩ h.1 (fun e=>hr e.symm)).trans (h.2.1 j hj),(hg.cell_far ⟨q,6,none⟩ h.1 (fun e=>hr e.symm)).trans h.2.2.1,fun o ho=>(hg.frozen_far ⟨q,o,none⟩ h.1 (fun e=>hr e.symm)).trans (h.2.2.2 o ho)⟩
theorem PbAt.grown (h:PbAt w p q r A n c hd sz M W) {row:Option Nat} (hg:W.grownBy W' row) (hr:∀ k,row=some k→r<k):PbAt w p q r A n c hd sz M W':=
 ⟨h.rb.grown hg (fun e=>by have:=hr p e;have:=h.old;omega),h.ms.grown' hg (fun e=>by have:=hr q e;have:=h.old;omega),h.rs.grown hg (fun e=>by have:=hr r e;omega),h.bel.grown hg h.bel.size (fun k hk=>by have:=hr k hk;have:=h.old;omega),h.old⟩
theorem PbAt.alloc (h:PbAt w p q r A n c hd sz M W) (o:Obj):PbAt w p q r A n c hd sz M (W.alloc o):=h.below ((Below.refl _ _).alloc (Nat.le_refl _) o)
end
theorem RB.set3' {W:World} {p r n c:Nat} {A:Option Addr} {hd sz:Int} (h:RB W p A n c hd sz) (hr:r≠p) (x y z:Value):RB (((W.setCell ⟨r,0,none⟩ x).setCell ⟨r,1,none⟩ y).setCell ⟨r,2,none⟩ z) p A n c hd sz:=
 ((h.other (a:=⟨r,0,none⟩) hr x).other (a:=⟨r,1,none⟩) hr y).other (a:=⟨r,2,none⟩) hr z
theorem MAt.set3' {W:World} {q r:Nat} {f:Nat→Int} {t:ByteArray} (h:MAt W q f t) (hr:r≠q) (x y z:Value):MAt (((W.setCell ⟨r,0,none⟩ x).setCell ⟨r,1,none⟩ y).setCell ⟨r,2,none⟩ z) q f t:=
 ((h.other (p:=⟨r,0,none⟩) hr x).other (p:=⟨r,1,none⟩) hr y).other (p:=⟨r,2,none⟩) hr z
theorem s10_of' {W:World} {p y n c:Nat} {A:Option Addr} {hd sz:Int} {M:Msg} (h:RB W p A n c hd sz) (k:MAt W y M.nth M.bd):(W.cell? ⟨p,0,none⟩=some (.slice A n c)∧W.cell? ⟨p,1,none⟩=some (.int .i64 hd)∧W.cell? ⟨p,2,none⟩=some (.int .i64 sz)∧W.cell? ⟨y,0,none⟩=some (.int .i64 M.id)∧W.cell? ⟨y,1,none⟩=some (.int .i64 M.rt)∧W.cell? ⟨y,2,none⟩=some (.int .i64 M.ep)∧W.cell? ⟨y,3,none⟩=some (.int .i64 M.ct)∧W.cell? ⟨y,4,none⟩=some (.int .i64 M.gn)∧W.cell? ⟨y,5,none⟩=some (.int .i64 M.st)∧W.cell? ⟨y,6,none⟩=some (.string M.bd)):=
 ⟨h.c0,h.c1,h.c2,k.facts.1⟩
theorem pb_set3 {w W:World} {p q r n c:Nat} {A:Option Addr} {hd sz:Int} {M:Msg} (h:PbAt w p q r A n c hd sz M W) (x y z:Value):((((W.setCell ⟨r,0,none⟩ x).setCell ⟨r,1,none⟩ y).setCell ⟨r,2,none⟩ z).cell? ⟨p,0,none⟩=some (.slice A n c)∧(((W.setCell ⟨r,0,none⟩ x).setCell ⟨r,1,none⟩ y).setCell ⟨r,2,none⟩ z).cell? ⟨p,1,none⟩=some (.int .i64 hd)∧(((W.setCell ⟨r,0,none⟩ x).setCell ⟨r,1,none⟩ y).setCell ⟨r,2,none⟩ z).cell? ⟨p,2,none⟩=some (.int .i64 sz)∧(((W.setCell ⟨r,0,none⟩ x).setCell ⟨r,1,none⟩ y).setCell ⟨r,2,none⟩ z).cell? ⟨q,0,none⟩=some (.int .i64 M.id)∧(((W.setCell ⟨r,0,none⟩ x).setCell ⟨r,1,none⟩ y).setCell ⟨r,2,none⟩ z).cell? ⟨q,1,none⟩=some (.int .i64 M.rt)∧(((W.setCell ⟨r,0,none⟩ x).setCell ⟨r,1,none⟩ y).setCell ⟨r,2,none⟩ z).cell? ⟨q,2,none⟩=some (.int .i64 M.ep)∧(((W.setCell ⟨r,0,none⟩ x).setCell ⟨r,1,none⟩ y).setCell ⟨r,2,none⟩ z).cell? ⟨q,3,none⟩=some (.int .i64 M.ct)∧(((W.setCell ⟨r,0,none⟩ x).setCell ⟨r,1,none⟩ y).setCell ⟨r,2,none⟩ z).cell? ⟨q,4,none⟩=some (.int .i64 M.gn)∧(((W.setCell ⟨r,0,none⟩ x).setCell ⟨r,1,none⟩ y).setCell ⟨r,2,none⟩ z).cell? ⟨q,5,none⟩=some (.int .i64 M.st)∧(((W.setCell ⟨r,0,none⟩ x).setCell ⟨r,1,none⟩ y).setCell ⟨r,2,none⟩ z).cell? ⟨q,6,none⟩=some (.string M.bd)):=
 s10_of' (h.rb.set3' (show r≠p by have:=h.old;omega) x y z) (h.ms.set3' (show r≠q by have:=h.old;omega) x y z)
theorem own_beyond {W:World} {r lo k:Nat} {e:TypeId} {v:Value} {xs:List Value} {size:Nat} (hown:W.ownsRow lo e size v k xs) (hr:r<lo):∀ x,v.ownBlock=some x→r<x:=by
 intro x hx
 rcases hown.2 with ⟨hv,_⟩ | ⟨g,cap,cur,hv,hg,_⟩
 ·subst hv;simp [Value.ownBlock] at hx
 ·subst hv;simp [Value.ownBlock] at hx;omega
theorem own_more {W1:World} {base:Nat} {e:TypeId} {v:Value} {l:List Msg} {M:Msg} (h:W1.ownsRow base e 7 v (l.length+1) (lcs l++M.l)):W1.ownsRow base e 7 v (l++[M]).length (lcs (l++[M])):=by
 rw [lcs_app]
 simpa [lcs] using h
attribute [local go_sem ↓] Go.wp_at_zero Go.wp_at_succ
set_option maxHeartbeats 8000000 in
set_option maxRecDepth 20000 in
theorem rpback_any (A:Option Addr) (n c:Nat) (cs:List Msg) (hd sz:Int) (M:Msg) (w:World) (hv:Ls w w.heap.size (.slice A n c) cs) :
  Calls Tryz.prog 131 #[.agg #[.slice A n c,.int .i64 hd,.int .i64 sz],M.v] w (RP w (pbC cs hd sz M) (ifE (puE cs hd sz M) hd) (ifE (puE cs hd sz M) (sz+1)) (puE cs hd sz M)):=by
 obtain ⟨rfl,_,_⟩:=hv.len
 have HV:=Lh hv
 have HP:=Lh (fun w1 (h:Ls w1 w1.heap.size (.slice A cs.length c) cs)=>pushable_any A cs.length c cs hd sz M w1 h)
 obtain ⟨i0,hi0,hz0⟩:=Option.map_eq_some_iff.1 info_msg
 simp only [Prod.mk.injEq] at hz0
 have HI:=Lh hi0
 have HZ:=Lh hz0
 clear hv hi0 hz0
 by_cases h0:puE cs hd sz M=0
 ·have HC:=Lh (show pbC cs hd sz M=fil cs.length hd.toNat (ord cs hd.toNat sz.toNat++[M]) from if_pos h0)
  rw [h0] at HP ⊢
  have HE1:=Lh (show ifE 0 hd=hd from if_pos rfl)
  have HE2:=Lh (show ifE 0 (sz+1)=sz+1 from if_pos rfl)
  obtain ⟨hg,_,hne,_⟩:=puE_zero h0
  obtain ⟨hn,hz,_,_⟩:=rgV_zero hg
  obtain ⟨⟨n1,n2⟩,⟨k1,k2⟩,⟨s1,s2⟩⟩:=nm_of hn
  obtain ⟨hd,rfl⟩:=Int.eq_ofNat_of_zero_le k1
  obtain ⟨sz,rfl⟩:=Int.eq_ofNat_of_zero_le s1
  simp only [Int.toNat_natCast] at HC hz
  have HO:=Lh (fun w1 (h:Ls w1 w1.heap.size (.slice A cs.length c) cs)=>rorder_own A cs.length c cs hd sz w1 h hn)
  have hol:=ord_len cs hd sz
  have HWI:=Lh (fun v A' n' c' w1 (hv:v=Value.slice A' n' c') (h:Ls w1 w1.heap.size v (ord cs hd sz++[M]))=>with_any A cs.length c hd sz hd A' n' c' (ord cs hd sz++[M]) w1 (by omega) (by omega) (by simp;omega) (hv ▸ h))
  rw [←HC.out] at HWI
  have HLN:=Lh (show ((ord cs hd sz++[M]).length:Int)=(sz:Int)+1 by simp [hol])
  rw [HLN.out] at HWI
  have hlo:(ord cs hd sz).length≤12:=by omega
  generalize ord cs hd sz=l at*
  clear h0 hg hne hn hz HC hol HLN
  generalize pbC cs hd sz M=ds at*
  go_enter Tryz.func131,Tryz.ntmps131
  go_wp2_with fail
  have HS:=Lh (PbAt.start w A cs.length c hd sz M 27 56)
  obtain ⟨p,hp⟩:∃ p,p=w.heap.size:=⟨_,rfl⟩
  obtain ⟨q,hq⟩:∃ q,q=w.heap.size+1:=⟨_,rfl⟩
  obtain ⟨r,hr⟩:∃ r,r=w.heap.size+1+1:=⟨_,rfl⟩
  rw [←hr,←hq,←hp] at HS ⊢
  clear hp hq hr
  refine (HP.out _ (HV.out.up HS.out.bel)).mono ?_
  rintro e w1 ⟨rfl,hb⟩
  have HS1:=Lh (HS.out.below hb)
  clear hb HS
  go_wp2
  have HSM:=Lh (HS1.out.alloc (.cells M.cs 56))
  have HSA:=Lh HS1.out.drew.s10
  have HSB:=Lh HSM.out.drew.s10
  have HRL:=Lh HS1.out.rs.lt
  go_region_held3 (fun W=>W.cell? ⟨p,0,none⟩=some (.slice A cs.length c)∧W.cell? ⟨p,1,none⟩=some (.int .i64 hd)∧W.cell? ⟨p,2,none⟩=some (.int .i64 sz)∧W.cell? ⟨q,0,none⟩=some (.int .i64 M.id)∧W.cell? ⟨q,1,none⟩=some (.int .i64 M.rt)∧W.cell? ⟨q,2,none⟩=some (.int .i64 M.ep)∧W.cell? ⟨q,3,none⟩=some (.int .i64 M.ct)∧W.cell? ⟨q,4,none⟩=some (.int .i64 M.gn)∧W.cell? ⟨q,5,none⟩=some (.int .i64 M.st)∧W.cell? ⟨q,6,none⟩=some (.string M.bd))
   (first | with_reducible exact HSA.out | with_reducible exact HSB.out | with_reducible exact HSC.out | with_reducible exact HSD.out | with_reducible exact HSE.out | with_reducible exact HSF.out | with_reducible exact HSG.out)
   (first
   | (refine step_append_lies _ (by rfl) _ _ _ (by rfl) w1.heap.size 56 i0 _ 7 64 Tryz.underlying25 HI.out HZ.out.1 HZ.out.2.1 HZ.out.2.2 rfl (by omega) (.slice As l.length cap) l.length (lcs l) (by rfl) (HO4.out.alloc _) ⟨w4.heap.size,0,none⟩ 1 1 M.l (by rfl) (by simp [Msg.l_len]) (World.news_of_block (cs:=M.cs) (t:=56) (fr:=(0,0)) (heap_alloc_new w4 _)) M.l_one (by omega) (by unfold maxLen;omega) (by omega) (Nat.le_trans HBS4.out (by simp)) _ rfl ?_;intro g1 cap1 w5 hown5 hgrow5 hat5 hlt5;have HS5:=Lh ((HS4.out.alloc (.cells M.cs 56)).grown hgrow5 HG4.out);have HOW5:=Lh (own_more hown5);have HL5:=Lh (Ls.of_own (own_more hown5));have HSE:=Lh HS5.out.s10;clear hown5 hgrow5 hat5 hlt5)
   | (refine step_append_lies _ (by rfl) _ _ _ (by rfl) w1.heap.size 56 i0 _ 7 64 Tryz.underlying25 HI.out HZ.out.1 HZ.out.2.1 HZ.out.2.2 rfl (by omega) (.slice As l.length cap) l.length (lcs l) (by rfl) HO4.out ⟨w1.heap.size,0,none⟩ 1 1 M.l (by rfl) (by simp [Msg.l_len]) (World.news_of_block (cs:=M.cs) (t:=56) (fr:=(0,0)) HNB4.out) M.l_one (by omega) (by unfold maxLen;omega) (by omega) HBS4.out _ rfl ?_;intro g1 cap1 w5 hown5 hgrow5 hat5 hlt5;have HS5:=Lh (HS4.out.grown hgrow5 HG4.out);have HOW5:=Lh (own_more hown5);have HL5:=Lh (Ls.of_own (own_more hown5));have HSE:=Lh HS5.out.s10;clear hown5 hgrow5 hat5 hlt5)
   | (go_at_call 177;(with_reducible refine (HWI.out _ _ _ _ _ rfl HL5.out).mono ?_);rintro e w6 ⟨A6,c6,rfl,hnw,hl6,hb⟩;have HS6:=Lh (HS5.out.below hb);have HNW:=Lh hnw;have HL6:=Lh hl6;have HSF:=Lh HS6.out.s10;have HSG:=Lh (pb_set3 HS6.out (.slice A6 ds.length c6) (.int .i64 hd) (.int .i64 ((sz:Int)+1)));obtain ⟨_,_,⟨t0,t1,t2,t3,t4,t5,hrl⟩⟩:=HS6.out.facts;clear hnw hl6 hb)
   | (go_at_call 112;(with_reducible refine (HO.out _ (HV.out.up HS1.out.drew.bel)).mono ?_);rintro e w4 ⟨v,rfl,hown,hb⟩;obtain ⟨As,cap,rfl⟩:=own_form hown;have HS4:=Lh (PbAt.below (W:=w1) HS1.out (drew_below hb));have HO4:=Lh (own_low hown (show w1.heap.size≤(w1).drew.heap.size by first | exact Nat.le_refl _ | simp));have HBS4:=Lh (show w1.heap.size≤w4.heap.size from Nat.le_trans (show w1.heap.size≤(w1).drew.heap.size by first | exact Nat.le_refl _ | simp) hb.size);have HG4:=Lh (own_beyond HO4.out (r:=r) HRL.out);have HSC:=Lh HS4.out.s10;have HSD:=Lh (HS4.out.alloc (.cells M.cs 56)).s10;clear hown hb)
   | (go_at_call 112;(with_reducible refine (HO.out _ (HV.out.up HSM.out.drew.bel)).mono ?_);rintro e w4 ⟨v,rfl,hown,hb⟩;obtain ⟨As,cap,rfl⟩:=own_form hown;have HS4:=Lh (PbAt.below (W:=w1.alloc (.cells M.cs 56)) HSM.out (drew_below hb));have HO4:=Lh (own_low hown (show w1.heap.size≤(w1.alloc (.cells M.cs 56)).drew.heap.size by first | exact Nat.le_refl _ | simp));have HBS4:=Lh (show w1.heap.size≤w4.heap.size from Nat.le_trans (show w1.heap.size≤(w1.alloc (.cells M.cs 56)).drew.heap.size by first | exact Nat.le_refl _ | simp) hb.size);have HG4:=Lh (own_beyond HO4.out (r:=r) HRL.out);have HSC:=Lh HS4.out.s10;have HNB4:=Lh ((hb.block w1.heap.size (by simp)).trans (heap_alloc_new w1 _));clear hown hb))
  all_goals
   have HL:=Lh ((HL6.out.off3 HNW.out HS5.out.rs.lt (.slice A6 ds.length c6) (.int .i64 hd) (.int .i64 ((sz:Int)+1))).more (show w6.heap.size≤(((w6.setCell ⟨r,0,none⟩ (.slice A6 ds.length c6)).setCell ⟨r,1,none⟩ (.int .i64 hd)).setCell ⟨r,2,none⟩ (.int .i64 ((sz:Int)+1))).heap.size by simp))
   have HB:=Lh (HS6.out.result A6 ds.length c6 hd ((sz:Int)+1))
   clear HSA HSB HSC HSE HSF HSG
   go_wp2
   exact bodyPost_ret (v:=.tuple #[.agg #[.slice A6 ds.length c6,.int .i64 hd,.int .i64 ((sz:Int)+1)],.int .i64 0]) (by simp only [results,Tryz.results131];go_simp <;> rfl) rfl ⟨A6,c6,by rw [HE1.out,HE2.out],nw_low HNW.out HS5.out.bel.size,HL.out,HB.out⟩
 ·have HC:=Lh (show pbC cs hd sz M=[] from if_neg h0)
  have HE1:=Lh (show ifE (puE cs hd sz M) hd=0 from if_neg h0)
  have HE2:=Lh (show ifE (puE cs hd sz M) (sz+1)=0 from if_neg h0)
  have hne:(puE cs hd sz M != 0)=true:=bne_iff_ne.2 h0
  generalize puE cs hd sz M=x at*
  generalize pbC cs hd sz M=ds at*
  clear h0
  go_enter Tryz.func131,Tryz.ntmps131
  go_wp2_with fail
  have HS:=Lh (PbAt.start w A cs.length c hd sz M 27 56)
  obtain ⟨p,hp⟩:∃ p,p=w.heap.size:=⟨_,rfl⟩
  obtain ⟨q,hq⟩:∃ q,q=w.heap.size+1:=⟨_,rfl⟩
  obtain ⟨r,hr⟩:∃ r,r=w.heap.size+1+1:=⟨_,rfl⟩
  rw [←hr,←hq,←hp] at HS ⊢
  clear hp hq hr
  refine (HP.out _ (HV.out.up HS.out.bel)).mono ?_
  rintro e w1 ⟨rfl,hb⟩
  have HS1:=Lh (HS.out.below hb)
  obtain ⟨_,_,⟨t0,t1,t2,t3,t4,t5,hrl⟩⟩:=HS1.out.facts
  have HB:=Lh (HS1.out.result none 0 0 0 0)
  clear hb HS
  go_wp2
  exact bodyPost_ret (v:=.tuple #[.agg #[.slice none 0 0,.int .i64 0,.int .i64 0],.int .i64 x]) (by simp only [results,Tryz.results131];go_simp <;> rfl) rfl ⟨none,0,by rw [HC.out,HE1.out,HE2.out];rfl,nw_none,by rw [HC.out];exact Ls.nil,HB.out⟩
end Go.Proofs.YtncgbldcjfbknaaGreat
