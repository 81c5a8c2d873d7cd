/- What is proved here: the numbers that a source of the statements' base gives, exactly: New, Raw, N, Range of a list of at most 4000 numbers; ref15.sameShards, SameOutcome, Same of equal lists, outcomes (without edits), sections by contracts. -/
import Derived.Test.YtakjpmbgapipjaaGreatJ33
namespace Go.Proofs.YtakjpmbgapipjaaGreat
open Go.RowKit
set_option linter.unusedVariables false
def srK (zs:List Int) (k:Nat):Nat:=if k<zs.length then k+1 else k
def srV (zs:List Int) (k:Nat):Int:=zs[k]?.getD 0
def srN (x n:Int):Int:=if x.tmod n<0 then x.tmod n+n else x.tmod n
def SrE (W:World) (B g:Nat) (zs:List Int) (k:Nat):Prop:=B≤g∧g<W.heap.size∧k≤5000∧zs.length≤4000∧∃ (A:Option Addr) (c:Nat),
 W.cell? ⟨g,0,none⟩=some (.slice A zs.length c)∧W.cell? ⟨g,1,none⟩=some (.int .i64 k)∧W.frozen? ⟨g,1,none⟩=false∧Rd W B 1 A zs.length (zs.map i64v)∧∀ z∈zs,-9223372036854775808≤z∧z≤9223372036854775807
section
variable {W W' : World} {B g h k:Nat} {zs:List Int}
theorem SrE.keep (s:SrE W B g zs k) (hs:W.heap.size≤W'.heap.size) (h0:∀ o,W'.cell? ⟨g,o,none⟩=W.cell? ⟨g,o,none⟩) (h1:∀ o,W'.frozen? ⟨g,o,none⟩=W.frozen? ⟨g,o,none⟩) (hk:∀ p:Addr,p.block<B→W'.cell? p=W.cell? p):SrE W' B g zs k:=by
 obtain ⟨hB,hg,a1,a2,A,c,a5,a6,a7,a8,a9⟩:=s
 exact ⟨hB,by omega,a1,a2,A,c,(h0 0).trans a5,(h0 1).trans a6,(h1 1).trans a7,a8.keep hk,a9⟩
theorem SrE.up (s:SrE W B g zs k) (hb:Below W.heap.size W W'):SrE W' B g zs k:=
 s.keep hb.size (fun o=>hb.cell s.2.1) (fun o=>hb.frozen s.2.1) (fun p hp=>hb.cell (by have:=s.1;have:=s.2.1;omega))
theorem SrE.drewN (s:SrE W B g zs k) (n:Nat):SrE (W.drewN n) B g zs k:=s
theorem SrE.put (s:SrE W B g zs k) {m:Nat} (hm:m≤5000):SrE (W.setCell ⟨g,1,none⟩ (.int .i64 (m:Int))) B g zs m:=by
 obtain ⟨hB,hg,a1,a2,A,c,a5,a6,a7,a8,a9⟩:=s
 refine ⟨hB,by simpa using hg,hm,a2,A,c,(World.cell?_setCell_other W _ _ _ (fun e=>by injection e;omega)).trans a5,?_,by rw [World.frozen?_setCell];exact a7,a8.setCell hB _,a9⟩
 simp [go_sem,a6]
end
def SrX (B g:Nat) (zs:List Int) (k:Nat) (x:Int) (w:World) (e:Ending) (w' : World):Prop:=e=.returned (.int .i64 x)∧SrE w' B g zs (srK zs k)∧w.grownBy w' (some g)
set_option maxHeartbeats 2000000 in
set_option maxRecDepth 20000 in
theorem raw_x (B g:Nat) (zs:List Int) (k:Nat) (w:World) (h:SrE w B g zs k):Calls Tryz.prog 38 #[.pointer (some ⟨g,0,none⟩)] w (SrX B g zs k (srV zs k) w):=by
 have H:=Lh h
 obtain ⟨hB,hg,a1,a2,A,c,a5,a6,a7,a8,a9⟩:=h
 have HA:=Lh a8
 have HZ:=Lh a9
 clear hB hg a8 a9
 by_cases hk:k<zs.length
 ·have hk' : ¬((zs.length:Int)≤(k:Int)):=by omega
  have hd:decide ((zs.length:Int)≤(k:Int))=false:=decide_eq_false hk'
  have HV:=Lh (show SrX B g zs k zs[k] w (.returned (.int .i64 zs[k]))=SrX B g zs k (srV zs k) w (.returned (.int .i64 zs[k])) by rw [show srV zs k=zs[k] by simp [srV,List.getElem?_eq_getElem hk]])
  have HK:=Lh (show srK zs k=k+1 by simp [srK,hk])
  obtain ⟨b,o,rfl,hb,hcell⟩:=HA.out.2 (by omega)
  have hz:=HZ.out zs[k] (List.getElem_mem hk)
  have hcz:=hcell k (i64v zs[k]) (by simp [hk])
  unfold i64v at hcz
  generalize zs[k]=z at*
  have HZ2:=Lh hz
  have hne1:b≠g:=by have:=H.out.1;omega
  have hne2:g≠b:=fun e=>hne1 e.symm
  have hk63:(k:Int)<(zs.length:Int):=by omega
  have hk0:(0:Int)≤(k:Int):=Int.natCast_nonneg _
  have hs:IntKind.i64.wrap ((k:Int)+1 - 1)=k:=by rw [IntWalk.i64_in _ (by omega)];omega
  have HP:=Lh (show SrE ((w.drewN 1).setCell ⟨g,1,none⟩ (.int .i64 ((k:Int)+1))) B g zs (k+1) from by have:=(H.out.drewN 1).put (m:=k+1) (by omega);simpa using this)
  clear hcell hz
  go_enter Tryz.func38,Tryz.ntmps38
  go_wp2
  go_quiet (fail)
  go_wp2
  go_quiet (fail)
  go_wp2
  go_ret
  show SrX B g zs k (srV zs k) w (.returned (.int .i64 z)) _
  rw [←HV.out]
  refine ⟨rfl,?_,only_drewN (only_set (only_drewN (World.grownBy.refl _ _) _) (.inl rfl) _) _⟩
  rw [HK.out]
  exact HP.out
 ·have hk' : (zs.length:Int)≤(k:Int):=by omega
  have hd:decide ((zs.length:Int)≤(k:Int))=true:=decide_eq_true hk'
  have HV:=Lh (show srV zs k=0 by simp [srV,List.getElem?_eq_none (by omega:zs.length≤k)])
  have HK:=Lh (show srK zs k=k by simp [srK,hk])
  go_enter Tryz.func38,Tryz.ntmps38
  go_wp2
  go_quiet (fail)
  go_wp2
  go_ret
  show SrX B g zs k (srV zs k) w (.returned (.int .i64 0)) _
  unfold SrX
  rw [HV.out,HK.out]
  exact ⟨rfl,H.out.drewN _,only_drewN (World.grownBy.refl _ _) _⟩
set_option maxHeartbeats 2000000 in
theorem n_x (B g:Nat) (zs:List Int) (k:Nat) (w:World) (h:SrE w B g zs k) (n:Int) (h1:1≤n) (h2:n≤1073741824):Calls Tryz.prog 16 #[.pointer (some ⟨g,0,none⟩),.int .i64 n] w (SrX B g zs k (srN (srV zs k) n) w):=by
 have HC:=Lh (raw_x B g zs k w h)
 have hx:-9223372036854775808≤srV zs k∧srV zs k≤9223372036854775807:=by
  unfold srV
  by_cases hk:k<zs.length
  ·obtain ⟨-,-,-,-,A,c,-,-,-,-,a9⟩:=h
   rw [List.getElem?_eq_getElem hk]
   exact a9 _ (List.getElem_mem hk)
  ·rw [List.getElem?_eq_none (by omega)]
   simp
 clear h
 generalize srV zs k=x at*
 have hr1:x.tmod n<n:=Int.tmod_lt_of_pos x (by omega)
 have hr2:-n<x.tmod n:=tmod_gt x n (by omega)
 go_enter Tryz.func16,Tryz.ntmps16
 go_wp2_with fail
 refine HC.out.mono ?_
 rintro e w1 ⟨rfl,hs,hg⟩
 have HS:=Lh hs
 have HG:=Lh hg
 clear hs hg
 by_cases hr:x.tmod n<0
 ·have HV:=Lh (show srN x n=x.tmod n+n by simp [srN,hr])
  go_wp2
  go_ret
  show SrX B g zs k (srN x n) w (.returned (.int .i64 _)) _
  rw [HV.out]
  exact ⟨rfl,HS.out,HG.out⟩
 ·have HV:=Lh (show srN x n=x.tmod n by simp [srN,hr])
  go_wp2
  go_ret
  show SrX B g zs k (srN x n) w (.returned (.int .i64 _)) _
  rw [HV.out]
  exact ⟨rfl,HS.out,HG.out⟩
theorem srN_in (x n:Int) (h:0<n):0≤srN x n∧srN x n≤n - 1:=by
 have hr1:x.tmod n<n:=Int.tmod_lt_of_pos x (by omega)
 have hr2:-n<x.tmod n:=tmod_gt x n (by omega)
 unfold srN
 split <;> omega
set_option maxHeartbeats 2000000 in
theorem range_x (B g:Nat) (zs:List Int) (k:Nat) (w:World) (h:SrE w B g zs k) (lo hi:Int) (h0:-1000≤lo) (h1:lo≤hi) (h2:hi≤1000000):Calls Tryz.prog 7 #[.pointer (some ⟨g,0,none⟩),.int .i64 lo,.int .i64 hi] w (SrX B g zs k (lo+srN (srV zs k) (hi - lo+1)) w):=by
 have HC:=Lh (n_x B g zs k w h (hi - lo+1) (by omega) (by omega))
 have hin:=srN_in (srV zs k) (hi - lo+1) (by omega)
 generalize srN (srV zs k) (hi - lo+1)=x at*
 clear h
 go_enter Tryz.func7,Tryz.ntmps7
 go_wp2_with fail
 refine HC.out.mono ?_
 rintro e w1 ⟨rfl,hs,hg⟩
 have HS:=Lh hs
 have HG:=Lh hg
 clear hs hg
 go_wp2
 go_ret
 exact ⟨rfl,HS.out,HG.out⟩
def SrNewE (zs:List Int) (w:World) (e:Ending) (w' : World):Prop:=∃ g,e=.returned (.pointer (some ⟨g,0,none⟩))∧SrE w' w.heap.size g zs 0∧Below w.heap.size w w'
set_option maxHeartbeats 2000000 in
theorem new_x (A:Option Addr) (c:Nat) (zs:List Int) (w:World) (h:Ns w w.heap.size (.slice A zs.length c) zs) (h4:zs.length≤4000):Calls Tryz.prog 6 #[.slice A zs.length c] w (SrNewE zs w):=by
 obtain ⟨-,hc,hm,hr,hz⟩:=h.parts
 have h4' : ¬(4000:Int)<(zs.length:Int):=by omega
 have HN:=Lh (show SrNewE zs w (.returned (.pointer (some ⟨w.heap.size,0,none⟩))) (w.alloc (.cells #[.slice A zs.length c,.int .i64 0] 47)) from
  ⟨_,rfl,⟨Nat.le_refl _,by simp,by omega,h4,A,c,by simp [go_sem],by simp [go_sem],by simp [go_sem],hr.alloc (Nat.le_refl _) _,hz⟩,(Below.refl _ _).alloc (Nat.le_refl _) _⟩)
 clear h hc hm hr hz
 go_enter Tryz.func6,Tryz.ntmps6
 go_wp2
 go_ret
 exact HN.out
theorem srV_two (zs:List Int):srV zs (srK zs (srK zs 0))=srV zs 2:=by
 unfold srV srK
 rcases zs with _ | ⟨a,_ | ⟨b,_ | ⟨c,t⟩⟩⟩ <;> simp
abbrev C8h (W:World) (b o:Nat) (S:Sh) (D:Sx):Prop:=W.cell? ⟨b,o,none⟩=some (.bool S.lv)∧W.cell? ⟨b,o+1,none⟩=some (.int .i64 S.lo)∧W.cell? ⟨b,o+2,none⟩=some (.int .i64 S.hi)∧W.cell? ⟨b,o+3,none⟩=some (.slice D.A S.cs.length D.c)∧W.cell? ⟨b,o+4,none⟩=some (.int .i64 S.hd)∧W.cell? ⟨b,o+5,none⟩=some (.int .i64 S.sz)∧W.cell? ⟨b,o+6,none⟩=some (.slice D.A2 S.l.length D.c2)∧W.cell? ⟨b,o+7,none⟩=some (.slice D.A3 S.h.length D.c3)
theorem hrows_c8 {W:World} {B:Nat} {A:Option Addr} {q:List Hs} {k:Nat} (h:RR W B (hRows A q)) (hk:k<q.length) (hc:∀ x∈q,ShCap x.S x.D):∃ b o,A=some ⟨b,o,none⟩∧b<B∧C8h W b (o+k*8) q[k].S q[k].D:=by
 obtain ⟨⟨b,o,e,hb,hcell⟩,-⟩:=hrows_at h hk hc
 have g:∀ j u,q[k].l[j]? = some u→W.cell? ⟨b,o+k*8+j,none⟩=some u:=fun j u hu=>by rw [Nat.add_assoc];exact hcell j u hu
 exact ⟨b,o,e,hb,g 0 _ rfl,g 1 _ rfl,g 2 _ rfl,g 3 _ rfl,g 4 _ rfl,g 5 _ rfl,g 6 _ rfl,g 7 _ rfl⟩
theorem c8h_up {W W' : World} {B b o:Nat} {S:Sh} {D:Sx} (h:C8h W b o S D) (hb:Below B W W') (hl:b<B):C8h W' b o S D:=by
 obtain ⟨h0,h1,h2,h3,h4,h5,h6,h7⟩:=h
 exact ⟨(hb.cell (p:=⟨b,_,none⟩) hl).trans h0,(hb.cell (p:=⟨b,_,none⟩) hl).trans h1,(hb.cell (p:=⟨b,_,none⟩) hl).trans h2,(hb.cell (p:=⟨b,_,none⟩) hl).trans h3,(hb.cell (p:=⟨b,_,none⟩) hl).trans h4,(hb.cell (p:=⟨b,_,none⟩) hl).trans h5,(hb.cell (p:=⟨b,_,none⟩) hl).trans h6,(hb.cell (p:=⟨b,_,none⟩) hl).trans h7⟩
set_option maxHeartbeats 8000000 in
set_option maxRecDepth 20000 in
theorem sameshards_yes (A A' : Option Addr) (c c' : Nat) (l:List Sh) (q q' : List Hs) (w:World) (h:RR w w.heap.size (hRows A q)) (h' : RR w w.heap.size (hRows A' q')) (hq:q.map Hs.S=l) (hq' : q'.map Hs.S=l) (hc:∀ x∈q,ShCap x.S x.D) (hc' : ∀ x∈q',ShCap x.S x.D) (hl:l.length≤1000):Calls Tryz.prog 28 #[.slice A l.length c,.slice A' l.length c'] w fun e w'=>e=.returned (.bool true)∧Below w.heap.size w w':=by
 have HA:=Lh (show ∀ W i,Below w.heap.size w W→i<l.length→∃ (S:Sh) (D E:Sx) (b o b' o' : Nat),A=some ⟨b,o,none⟩∧A' = some ⟨b',o',none⟩∧(b<w.heap.size∧b' < w.heap.size)∧(C8h W b (o+i*8) S D∧C8h W b' (o'+i*8) S E)∧SR W w.heap.size S D∧SR W w.heap.size S E from fun W i hb hi=>by
  have e1:i<q.length:=by have:=congrArg List.length hq;simp at this;omega
  have e2:i<q'.length:=by have:=congrArg List.length hq';simp at this;omega
  have s1:q[i].S=l[i]:=by simp [←hq]
  have s2:q'[i].S=l[i]:=by simp [←hq']
  obtain ⟨b,o,eA,hb1,k1⟩:=hrows_c8 (h.below hb) e1 hc
  obtain ⟨b',o',eA',hb2,k2⟩:=hrows_c8 (h'.below hb) e2 hc'
  have r1:=(hrows_at (h.below hb) e1 hc).2
  have r2:=(hrows_at (h'.below hb) e2 hc').2
  rw [s1] at k1 r1
  rw [s2] at k2 r2
  exact ⟨l[i],_,_,b,o,b',o',eA,eA',⟨hb1,hb2⟩,⟨k1,k2⟩,r1,r2⟩)
 have HLN:=Lh hl
 generalize hn:l.length=n at*
 have HB0:=Lh (Below.refl w.heap.size w)
 clear h h' hq hq' hc hc' hl hn
 go_enter Tryz.func28,Tryz.ntmps28
 go_wp2_with fail
 go_loopw [5] (fun iv wr=>∃ i:Nat,iv=.int .i64 i∧i≤n∧Hid (Below w.heap.size w wr)) (fun iv _=>n - (intOf iv).toNat)
 case atStart=>exact ⟨0,rfl,Nat.zero_le _,HB0⟩
 case round=>
  clear HB0
  obtain ⟨i,rfl,hi,HB⟩:=hrel
  by_cases hlt:i<n
  ·have hlt' : (i:Int)<(n:Int):=by omega
   have hi0:(0:Int)≤(i:Int):=by omega
   have hw2:IntKind.i64.wrap ((i:Int)+1)=(i:Int)+1:=IntWalk.i64_in _ (by have:=HLN.out;omega)
   obtain ⟨S,D,E,b,o,b',o',rfl,rfl,hbl,hc8,r1,r2⟩:=HA.out wr i HB.out hlt
   have HBL:=Lh hbl
   have HC8:=Lh hc8
   have HSZ:=Lh HB.out.size
   have HSK:=Lh (show ∀ W,Below wr.heap.size wr W→C8h W b (o+i*8) S D∧C8h W b' (o'+i*8) S E from fun W h=>⟨c8h_up HC8.out.1 (h.mono HSZ.out) HBL.out.1,c8h_up HC8.out.2 (h.mono HSZ.out) HBL.out.2⟩)
   have HB1:=Lh (Below.refl wr.heap.size wr)
   have HS7:=Lh (show ∀ W,Below wr.heap.size wr W→Calls Tryz.prog 20 #[sv S D,sv S E] W (fun e w'=>e=.returned (.bool true)∧Below wr.heap.size wr w') from fun W h=>(rsame7_yes S D E W ((r1.below (h.mono HSZ.out)).more (Nat.le_trans HSZ.out h.size)) ((r2.below (h.mono HSZ.out)).more (Nat.le_trans HSZ.out h.size))).mono fun e w' h1=>⟨h1.1,h.trans (h1.2.mono h.size)⟩)
   clear hbl hc8 r1 r2 HC8 HBL
   go_upto_region 6 with (fail)
   go_cut [26] (fun s26 wx=>s26=.bool false∧Below wr.heap.size wr wx)
   case first=>
    go_region_held3 (fun W=>C8h W b (o+i*8) S D∧C8h W b' (o'+i*8) S E)
     ((refine HSK.out _ ?_;repeat' (first | with_reducible exact HB1.out | with_reducible exact HB4.out | with_reducible refine bdr ?_ | exact Nat.le_refl _ | (simp;done) | (simp;omega))))
     ((go_at_call 20;(with_reducible refine (HS7.out _ ?hbel).mono ?_);(case hbel=>(repeat' (first | with_reducible exact HB1.out | with_reducible refine bdr ?_)));rintro e w4 ⟨rfl,hb⟩;have HB4:=Lh hb;clear hb))
    all_goals
     go_wp2_with fail
     go_meet
     exact ⟨rfl,HB4.out⟩
   case rest=>
    obtain ⟨rfl,hb⟩:=hcut
    have HB2:=Lh (HB.out.trans (hb.mono HSZ.out))
    clear hb HB HSK HB1 HS7 HSZ
    go_wp2
    go_roundw
    case rel=>exact ⟨i+1,by go_num,by omega,HB2⟩
    case measure=>simp [intOf];omega
  ·obtain rfl:i=n:=by omega
   go_wp2
   go_ret
   exact ⟨rfl,HB.out⟩
set_option maxHeartbeats 8000000 in
set_option maxRecDepth 20000 in
theorem sameout_yes (o:Ou) (X Y:Oux) (w:World) (h:OuR w w.heap.size o X) (h' : OuR w w.heap.size o Y) (hl:o.sh.length≤1000) (he:o.ed.length=0):Calls Tryz.prog 32 #[ouv o X,ouv o Y] w fun e w'=>e=.returned (.bool true)∧Below w.heap.size w w':=by
 have HS1:=Lh (fun W (b:Below w.heap.size w W)=>sameshards_yes X.A Y.A X.c Y.c o.sh X.q Y.q W ((h.shards.below b).more b.size) ((h'.shards.below b).more b.size) h.ok.q h'.ok.q h.ok.qc h'.ok.qc hl)
 have HS2:=Lh (fun W (b:Below w.heap.size w W)=>rsame8_yes o.dc X.Ad Y.Ad o.dl.length o.dl.length X.cd Y.cd o.dl W ((h.dead.below b).more b.size) ((h'.dead.below b).more b.size))
 have HS3:=Lh (fun W (b:Below w.heap.size w W)=>rsameints_yes X.Ao Y.Ao X.co Y.co o.od W ((h.order.below b).more b.size) ((h'.order.below b).more b.size))
 have HS4:=Lh (fun W (b:Below w.heap.size w W)=>rsame_yes X.Ac Y.Ac o.ca.length o.ca.length X.cc Y.cc o.ca W _ _ (h.carry.below b) (h'.carry.below b))
 have he' : ¬(0:Int)<(o.ed.length:Int):=by omega
 clear h h' hl he
 obtain ⟨p,hp⟩:∃ p,p=w.heap.size:=⟨_,rfl⟩
 obtain ⟨q,hq⟩:∃ q,q=w.heap.size+1:=⟨_,rfl⟩
 have HPP:=Lh (And.intro hp hq)
 have HP:=Lh (show Rb ((w.alloc (.cells #[.slice X.A o.sh.length X.c,.int .i64 o.dc,.slice X.Ad o.dl.length X.cd,.slice X.Ao o.od.length X.co,.slice X.Ac o.ca.length X.cc,.slice X.Ae o.ed.length X.ce] 40)).alloc (.cells #[.slice Y.A o.sh.length Y.c,.int .i64 o.dc,.slice Y.Ad o.dl.length Y.cd,.slice Y.Ao o.od.length Y.co,.slice Y.Ac o.ca.length Y.cc,.slice Y.Ae o.ed.length Y.ce] 40)) p [.slice X.A o.sh.length X.c,.int .i64 o.dc,.slice X.Ad o.dl.length X.cd,.slice X.Ao o.od.length X.co,.slice X.Ac o.ca.length X.cc,.slice X.Ae o.ed.length X.ce] from by
  rw [hp]
  exact (Rb.start w [.slice X.A o.sh.length X.c,.int .i64 o.dc,.slice X.Ad o.dl.length X.cd,.slice X.Ao o.od.length X.co,.slice X.Ac o.ca.length X.cc,.slice X.Ae o.ed.length X.ce] 40).up ((Below.refl _ _).alloc (Nat.le_refl _) (.cells #[.slice Y.A o.sh.length Y.c,.int .i64 o.dc,.slice Y.Ad o.dl.length Y.cd,.slice Y.Ao o.od.length Y.co,.slice Y.Ac o.ca.length Y.cc,.slice Y.Ae o.ed.length Y.ce] 40)))
 have HQ:=Lh (show Rb ((w.alloc (.cells #[.slice X.A o.sh.length X.c,.int .i64 o.dc,.slice X.Ad o.dl.length X.cd,.slice X.Ao o.od.length X.co,.slice X.Ac o.ca.length X.cc,.slice X.Ae o.ed.length X.ce] 40)).alloc (.cells #[.slice Y.A o.sh.length Y.c,.int .i64 o.dc,.slice Y.Ad o.dl.length Y.cd,.slice Y.Ao o.od.length Y.co,.slice Y.Ac o.ca.length Y.cc,.slice Y.Ae o.ed.length Y.ce] 40)) q [.slice Y.A o.sh.length Y.c,.int .i64 o.dc,.slice Y.Ad o.dl.length Y.cd,.slice Y.Ao o.od.length Y.co,.slice Y.Ac o.ca.length Y.cc,.slice Y.Ae o.ed.length Y.ce] from by
  have h1:=Rb.start (w.alloc (.cells #[.slice X.A o.sh.length X.c,.int .i64 o.dc,.slice X.Ad o.dl.length X.cd,.slice X.Ao o.od.length X.co,.slice X.Ac o.ca.length X.cc,.slice X.Ae o.ed.length X.ce] 40)) [.slice Y.A o.sh.length Y.c,.int .i64 o.dc,.slice Y.Ad o.dl.length Y.cd,.slice Y.Ao o.od.length Y.co,.slice Y.Ac o.ca.length Y.cc,.slice Y.Ae o.ed.length Y.ce] 40
  rw [show (w.alloc (.cells #[.slice X.A o.sh.length X.c,.int .i64 o.dc,.slice X.Ad o.dl.length X.cd,.slice X.Ao o.od.length X.co,.slice X.Ac o.ca.length X.cc,.slice X.Ae o.ed.length X.ce] 40)).heap.size=w.heap.size+1 by simp,←hq] at h1
  exact h1)
 have HB:=Lh (show Below w.heap.size w ((w.alloc (.cells #[.slice X.A o.sh.length X.c,.int .i64 o.dc,.slice X.Ad o.dl.length X.cd,.slice X.Ao o.od.length X.co,.slice X.Ac o.ca.length X.cc,.slice X.Ae o.ed.length X.ce] 40)).alloc (.cells #[.slice Y.A o.sh.length Y.c,.int .i64 o.dc,.slice Y.Ad o.dl.length Y.cd,.slice Y.Ao o.od.length Y.co,.slice Y.Ac o.ca.length Y.cc,.slice Y.Ae o.ed.length Y.ce] 40)) from ((Below.refl _ _).alloc (Nat.le_refl _) _).alloc (by simp) _)
 clear hp hq
 go_enter Tryz.func32,Tryz.ntmps32
 go_upto_region 1 with (fail)
 rw [←HPP.out.2,←HPP.out.1]
 generalize (w.alloc (.cells #[.slice X.A o.sh.length X.c,.int .i64 o.dc,.slice X.Ad o.dl.length X.cd,.slice X.Ao o.od.length X.co,.slice X.Ac o.ca.length X.cc,.slice X.Ae o.ed.length X.ce] 40)).alloc (.cells #[.slice Y.A o.sh.length Y.c,.int .i64 o.dc,.slice Y.Ad o.dl.length Y.cd,.slice Y.Ao o.od.length Y.co,.slice Y.Ac o.ca.length Y.cc,.slice Y.Ae o.ed.length Y.ce] 40)=w1 at*
 have y5:=HP.out.c 5 _ rfl
 have yl:=HP.out.lt
 have z5:=HQ.out.c 5 _ rfl
 have zl:=HQ.out.lt
 go_wp2_with fail
 go_loopw [5] (fun iv wr=>iv=.int .i64 0∧wr=w1) (fun iv _=>0)
 case atStart=>exact ⟨rfl,rfl⟩
 case round=>
  obtain ⟨rfl,rfl⟩:=hrel
  have y0:=HP.out.c 0 _ rfl
  have yl:=HP.out.lt
  have z0:=HQ.out.c 0 _ rfl
  have zl:=HQ.out.lt
  go_wp2_with fail
  clear y0 yl z0 zl
  refine (HS1.out _ HB.out).mono ?_
  rintro e wHS1 ⟨rfl,hb⟩
  replace HP:=Lh (HP.out.up hb)
  replace HQ:=Lh (HQ.out.up hb)
  replace HB:=Lh (HB.out.trans (hb.mono HB.out.size))
  clear hb HS1
  have y1:=HP.out.c 1 _ rfl
  have y2:=HP.out.c 2 _ rfl
  have yl:=HP.out.lt
  have z1:=HQ.out.c 1 _ rfl
  have z2:=HQ.out.c 2 _ rfl
  have zl:=HQ.out.lt
  go_wp2_with fail
  clear y1 y2 yl z1 z2 zl
  refine (HS2.out _ HB.out).mono ?_
  rintro e wHS2 ⟨rfl,hb⟩
  replace HP:=Lh (HP.out.up hb)
  replace HQ:=Lh (HQ.out.up hb)
  replace HB:=Lh (HB.out.trans (hb.mono HB.out.size))
  clear hb HS2
  have y3:=HP.out.c 3 _ rfl
  have yl:=HP.out.lt
  have z3:=HQ.out.c 3 _ rfl
  have zl:=HQ.out.lt
  go_wp2_with fail
  clear y3 yl z3 zl
  refine (HS3.out _ HB.out).mono ?_
  rintro e wHS3 ⟨rfl,hb⟩
  replace HP:=Lh (HP.out.up hb)
  replace HQ:=Lh (HQ.out.up hb)
  replace HB:=Lh (HB.out.trans (hb.mono HB.out.size))
  clear hb HS3
  have y4:=HP.out.c 4 _ rfl
  have yl:=HP.out.lt
  have z4:=HQ.out.c 4 _ rfl
  have zl:=HQ.out.lt
  go_wp2_with fail
  clear y4 yl z4 zl
  refine (HS4.out _ HB.out).mono ?_
  rintro e wHS4 ⟨rfl,hb⟩
  replace HP:=Lh (HP.out.up hb)
  replace HQ:=Lh (HQ.out.up hb)
  replace HB:=Lh (HB.out.trans (hb.mono HB.out.size))
  clear hb HS4
  have HFIN:=Lh HB.out
  clear HP HQ HB
  go_wp2
  go_ret
  exact ⟨rfl,HFIN.out⟩
set_option maxHeartbeats 16000000 in
set_option maxRecDepth 20000 in
theorem rsame15_yes (s:Se) (X Y:Sex) (w:World) (h:SeR w w.heap.size s X) (h' : SeR w w.heap.size s Y) (hl:s.sh.length≤1000) (hlo:s.o.sh.length≤1000) (he:s.o.ed.length=0):Calls Tryz.prog 10 #[sev s X,sev s Y] w fun e w'=>e=.returned (.bool true)∧Below w.heap.size w w':=by
 have HS1:=Lh (fun W (b:Below w.heap.size w W)=>rsame13_yes s.lk X.Al Y.Al X.cl Y.cl W ((h.lock.below b).more b.size) ((h'.lock.below b).more b.size))
 have HS2:=Lh (fun W (b:Below w.heap.size w W)=>sameshards_yes X.A Y.A X.c Y.c s.sh X.q Y.q W ((h.shards.below b).more b.size) ((h'.shards.below b).more b.size) h.ok.q h'.ok.q h.ok.qc h'.ok.qc hl)
 have HS3:=Lh (fun W (b:Below w.heap.size w W)=>rsame8_yes s.dc X.Ad Y.Ad s.dl.length s.dl.length X.cd Y.cd s.dl W ((h.dead.below b).more b.size) ((h'.dead.below b).more b.size))
 have HS4:=Lh (fun W (b:Below w.heap.size w W)=>rsame11_any X.At Y.At s.st.length s.st.length X.ct Y.ct s.st s.st W ((h.stripes.below b).more b.size) ((h'.stripes.below b).more b.size))
 rw [sm_self] at HS4
 have HS5:=Lh (fun W (b:Below w.heap.size w W)=>rsame10_yes s.dir X.D Y.D W ((h.dr.below b).more b.size) ((h'.dr.below b).more b.size))
 have HS6:=Lh (fun W (b:Below w.heap.size w W)=>sameout_yes s.o X.o Y.o W ((h.out.below b).more b.size) ((h'.out.below b).more b.size) hlo he)
 have HS7:=Lh (fun W (b:Below w.heap.size w W)=>rsame_yes X.Ac Y.Ac s.ca.length s.ca.length X.cc Y.cc s.ca W _ _ (h.carry.below b) (h'.carry.below b))
 clear h h' hl hlo he
 obtain ⟨p,hp⟩:∃ p,p=w.heap.size:=⟨_,rfl⟩
 obtain ⟨q,hq⟩:∃ q,q=w.heap.size+1:=⟨_,rfl⟩
 have HPP:=Lh (And.intro hp hq)
 have HP:=Lh (show Rb ((w.alloc (.cells #[.int .i64 s.ph,.int .i64 s.at_,.slice X.Al s.lk.cs.length X.cl,.int .i64 s.lk.ph,.int .i64 s.lk.hv,.int .i64 s.lk.tr,.int .i64 s.lk.wt,.int .i64 s.sn.ph,.int .i64 s.sn.ep,.int .i64 s.sn.ck,.int .i64 s.sn.sp,.slice X.A s.sh.length X.c,.int .i64 s.dc,.slice X.Ad s.dl.length X.cd,.slice X.At s.st.length X.ct,.int .i64 s.dir.vn,.slice X.D.A s.dir.l.length X.D.c,.slice X.D.A2 s.dir.F.length X.D.c2,.slice X.o.A s.o.sh.length X.o.c,.int .i64 s.o.dc,.slice X.o.Ad s.o.dl.length X.o.cd,.slice X.o.Ao s.o.od.length X.o.co,.slice X.o.Ac s.o.ca.length X.o.cc,.slice X.o.Ae s.o.ed.length X.o.ce,.int .i64 s.lim,.slice X.Ac s.ca.length X.cc] 42)).alloc (.cells #[.int .i64 s.ph,.int .i64 s.at_,.slice Y.Al s.lk.cs.length Y.cl,.int .i64 s.lk.ph,.int .i64 s.lk.hv,.int .i64 s.lk.tr,.int .i64 s.lk.wt,.int .i64 s.sn.ph,.int .i64 s.sn.ep,.int .i64 s.sn.ck,.int .i64 s.sn.sp,.slice Y.A s.sh.length Y.c,.int .i64 s.dc,.slice Y.Ad s.dl.length Y.cd,.slice Y.At s.st.length Y.ct,.int .i64 s.dir.vn,.slice Y.D.A s.dir.l.length Y.D.c,.slice Y.D.A2 s.dir.F.length Y.D.c2,.slice Y.o.A s.o.sh.length Y.o.c,.int .i64 s.o.dc,.slice Y.o.Ad s.o.dl.length Y.o.cd,.slice Y.o.Ao s.o.od.length Y.o.co,.slice Y.o.Ac s.o.ca.length Y.o.cc,.slice Y.o.Ae s.o.ed.length Y.o.ce,.int .i64 s.lim,.slice Y.Ac s.ca.length Y.cc] 42)) p [.int .i64 s.ph,.int .i64 s.at_,.slice X.Al s.lk.cs.length X.cl,.int .i64 s.lk.ph,.int .i64 s.lk.hv,.int .i64 s.lk.tr,.int .i64 s.lk.wt,.int .i64 s.sn.ph,.int .i64 s.sn.ep,.int .i64 s.sn.ck,.int .i64 s.sn.sp,.slice X.A s.sh.length X.c,.int .i64 s.dc,.slice X.Ad s.dl.length X.cd,.slice X.At s.st.length X.ct,.int .i64 s.dir.vn,.slice X.D.A s.dir.l.length X.D.c,.slice X.D.A2 s.dir.F.length X.D.c2,.slice X.o.A s.o.sh.length X.o.c,.int .i64 s.o.dc,.slice X.o.Ad s.o.dl.length X.o.cd,.slice X.o.Ao s.o.od.length X.o.co,.slice X.o.Ac s.o.ca.length X.o.cc,.slice X.o.Ae s.o.ed.length X.o.ce,.int .i64 s.lim,.slice X.Ac s.ca.length X.cc] from by
  rw [hp]
  exact (Rb.start w [.int .i64 s.ph,.int .i64 s.at_,.slice X.Al s.lk.cs.length X.cl,.int .i64 s.lk.ph,.int .i64 s.lk.hv,.int .i64 s.lk.tr,.int .i64 s.lk.wt,.int .i64 s.sn.ph,.int .i64 s.sn.ep,.int .i64 s.sn.ck,.int .i64 s.sn.sp,.slice X.A s.sh.length X.c,.int .i64 s.dc,.slice X.Ad s.dl.length X.cd,.slice X.At s.st.length X.ct,.int .i64 s.dir.vn,.slice X.D.A s.dir.l.length X.D.c,.slice X.D.A2 s.dir.F.length X.D.c2,.slice X.o.A s.o.sh.length X.o.c,.int .i64 s.o.dc,.slice X.o.Ad s.o.dl.length X.o.cd,.slice X.o.Ao s.o.od.length X.o.co,.slice X.o.Ac s.o.ca.length X.o.cc,.slice X.o.Ae s.o.ed.length X.o.ce,.int .i64 s.lim,.slice X.Ac s.ca.length X.cc] 42).up ((Below.refl _ _).alloc (Nat.le_refl _) (.cells #[.int .i64 s.ph,.int .i64 s.at_,.slice Y.Al s.lk.cs.length Y.cl,.int .i64 s.lk.ph,.int .i64 s.lk.hv,.int .i64 s.lk.tr,.int .i64 s.lk.wt,.int .i64 s.sn.ph,.int .i64 s.sn.ep,.int .i64 s.sn.ck,.int .i64 s.sn.sp,.slice Y.A s.sh.length Y.c,.int .i64 s.dc,.slice Y.Ad s.dl.length Y.cd,.slice Y.At s.st.length Y.ct,.int .i64 s.dir.vn,.slice Y.D.A s.dir.l.length Y.D.c,.slice Y.D.A2 s.dir.F.length Y.D.c2,.slice Y.o.A s.o.sh.length Y.o.c,.int .i64 s.o.dc,.slice Y.o.Ad s.o.dl.length Y.o.cd,.slice Y.o.Ao s.o.od.length Y.o.co,.slice Y.o.Ac s.o.ca.length Y.o.cc,.slice Y.o.Ae s.o.ed.length Y.o.ce,.int .i64 s.lim,.slice Y.Ac s.ca.length Y.cc] 42)))
 have HQ:=Lh (show Rb ((w.alloc (.cells #[.int .i64 s.ph,.int .i64 s.at_,.slice X.Al s.lk.cs.length X.cl,.int .i64 s.lk.ph,.int .i64 s.lk.hv,.int .i64 s.lk.tr,.int .i64 s.lk.wt,.int .i64 s.sn.ph,.int .i64 s.sn.ep,.int .i64 s.sn.ck,.int .i64 s.sn.sp,.slice X.A s.sh.length X.c,.int .i64 s.dc,.slice X.Ad s.dl.length X.cd,.slice X.At s.st.length X.ct,.int .i64 s.dir.vn,.slice X.D.A s.dir.l.length X.D.c,.slice X.D.A2 s.dir.F.length X.D.c2,.slice X.o.A s.o.sh.length X.o.c,.int .i64 s.o.dc,.slice X.o.Ad s.o.dl.length X.o.cd,.slice X.o.Ao s.o.od.length X.o.co,.slice X.o.Ac s.o.ca.length X.o.cc,.slice X.o.Ae s.o.ed.length X.o.ce,.int .i64 s.lim,.slice X.Ac s.ca.length X.cc] 42)).alloc (.cells #[.int .i64 s.ph,.int .i64 s.at_,.slice Y.Al s.lk.cs.length Y.cl,.int .i64 s.lk.ph,.int .i64 s.lk.hv,.int .i64 s.lk.tr,.int .i64 s.lk.wt,.int .i64 s.sn.ph,.int .i64 s.sn.ep,.int .i64 s.sn.ck,.int .i64 s.sn.sp,.slice Y.A s.sh.length Y.c,.int .i64 s.dc,.slice Y.Ad s.dl.length Y.cd,.slice Y.At s.st.length Y.ct,.int .i64 s.dir.vn,.slice Y.D.A s.dir.l.length Y.D.c,.slice Y.D.A2 s.dir.F.length Y.D.c2,.slice Y.o.A s.o.sh.length Y.o.c,.int .i64 s.o.dc,.slice Y.o.Ad s.o.dl.length Y.o.cd,.slice Y.o.Ao s.o.od.length Y.o.co,.slice Y.o.Ac s.o.ca.length Y.o.cc,.slice Y.o.Ae s.o.ed.length Y.o.ce,.int .i64 s.lim,.slice Y.Ac s.ca.length Y.cc] 42)) q [.int .i64 s.ph,.int .i64 s.at_,.slice Y.Al s.lk.cs.length Y.cl,.int .i64 s.lk.ph,.int .i64 s.lk.hv,.int .i64 s.lk.tr,.int .i64 s.lk.wt,.int .i64 s.sn.ph,.int .i64 s.sn.ep,.int .i64 s.sn.ck,.int .i64 s.sn.sp,.slice Y.A s.sh.length Y.c,.int .i64 s.dc,.slice Y.Ad s.dl.length Y.cd,.slice Y.At s.st.length Y.ct,.int .i64 s.dir.vn,.slice Y.D.A s.dir.l.length Y.D.c,.slice Y.D.A2 s.dir.F.length Y.D.c2,.slice Y.o.A s.o.sh.length Y.o.c,.int .i64 s.o.dc,.slice Y.o.Ad s.o.dl.length Y.o.cd,.slice Y.o.Ao s.o.od.length Y.o.co,.slice Y.o.Ac s.o.ca.length Y.o.cc,.slice Y.o.Ae s.o.ed.length Y.o.ce,.int .i64 s.lim,.slice Y.Ac s.ca.length Y.cc] from by
  have h1:=Rb.start (w.alloc (.cells #[.int .i64 s.ph,.int .i64 s.at_,.slice X.Al s.lk.cs.length X.cl,.int .i64 s.lk.ph,.int .i64 s.lk.hv,.int .i64 s.lk.tr,.int .i64 s.lk.wt,.int .i64 s.sn.ph,.int .i64 s.sn.ep,.int .i64 s.sn.ck,.int .i64 s.sn.sp,.slice X.A s.sh.length X.c,.int .i64 s.dc,.slice X.Ad s.dl.length X.cd,.slice X.At s.st.length X.ct,.int .i64 s.dir.vn,.slice X.D.A s.dir.l.length X.D.c,.slice X.D.A2 s.dir.F.length X.D.c2,.slice X.o.A s.o.sh.length X.o.c,.int .i64 s.o.dc,.slice X.o.Ad s.o.dl.length X.o.cd,.slice X.o.Ao s.o.od.length X.o.co,.slice X.o.Ac s.o.ca.length X.o.cc,.slice X.o.Ae s.o.ed.length X.o.ce,.int .i64 s.lim,.slice X.Ac s.ca.length X.cc] 42)) [.int .i64 s.ph,.int .i64 s.at_,.slice Y.Al s.lk.cs.length Y.cl,.int .i64 s.lk.ph,.int .i64 s.lk.hv,.int .i64 s.lk.tr,.int .i64 s.lk.wt,.int .i64 s.sn.ph,.int .i64 s.sn.ep,.int .i64 s.sn.ck,.int .i64 s.sn.sp,.slice Y.A s.sh.length Y.c,.int .i64 s.dc,.slice Y.Ad s.dl.length Y.cd,.slice Y.At s.st.length Y.ct,.int .i64 s.dir.vn,.slice Y.D.A s.dir.l.length Y.D.c,.slice Y.D.A2 s.dir.F.length Y.D.c2,.slice Y.o.A s.o.sh.length Y.o.c,.int .i64 s.o.dc,.slice Y.o.Ad s.o.dl.length Y.o.cd,.slice Y.o.Ao s.o.od.length Y.o.co,.slice Y.o.Ac s.o.ca.length Y.o.cc,.slice Y.o.Ae s.o.ed.length Y.o.ce,.int .i64 s.lim,.slice Y.Ac s.ca.length Y.cc] 42
  rw [show (w.alloc (.cells #[.int .i64 s.ph,.int .i64 s.at_,.slice X.Al s.lk.cs.length X.cl,.int .i64 s.lk.ph,.int .i64 s.lk.hv,.int .i64 s.lk.tr,.int .i64 s.lk.wt,.int .i64 s.sn.ph,.int .i64 s.sn.ep,.int .i64 s.sn.ck,.int .i64 s.sn.sp,.slice X.A s.sh.length X.c,.int .i64 s.dc,.slice X.Ad s.dl.length X.cd,.slice X.At s.st.length X.ct,.int .i64 s.dir.vn,.slice X.D.A s.dir.l.length X.D.c,.slice X.D.A2 s.dir.F.length X.D.c2,.slice X.o.A s.o.sh.length X.o.c,.int .i64 s.o.dc,.slice X.o.Ad s.o.dl.length X.o.cd,.slice X.o.Ao s.o.od.length X.o.co,.slice X.o.Ac s.o.ca.length X.o.cc,.slice X.o.Ae s.o.ed.length X.o.ce,.int .i64 s.lim,.slice X.Ac s.ca.length X.cc] 42)).heap.size=w.heap.size+1 by simp,←hq] at h1
  exact h1)
 have HB:=Lh (show Below w.heap.size w ((w.alloc (.cells #[.int .i64 s.ph,.int .i64 s.at_,.slice X.Al s.lk.cs.length X.cl,.int .i64 s.lk.ph,.int .i64 s.lk.hv,.int .i64 s.lk.tr,.int .i64 s.lk.wt,.int .i64 s.sn.ph,.int .i64 s.sn.ep,.int .i64 s.sn.ck,.int .i64 s.sn.sp,.slice X.A s.sh.length X.c,.int .i64 s.dc,.slice X.Ad s.dl.length X.cd,.slice X.At s.st.length X.ct,.int .i64 s.dir.vn,.slice X.D.A s.dir.l.length X.D.c,.slice X.D.A2 s.dir.F.length X.D.c2,.slice X.o.A s.o.sh.length X.o.c,.int .i64 s.o.dc,.slice X.o.Ad s.o.dl.length X.o.cd,.slice X.o.Ao s.o.od.length X.o.co,.slice X.o.Ac s.o.ca.length X.o.cc,.slice X.o.Ae s.o.ed.length X.o.ce,.int .i64 s.lim,.slice X.Ac s.ca.length X.cc] 42)).alloc (.cells #[.int .i64 s.ph,.int .i64 s.at_,.slice Y.Al s.lk.cs.length Y.cl,.int .i64 s.lk.ph,.int .i64 s.lk.hv,.int .i64 s.lk.tr,.int .i64 s.lk.wt,.int .i64 s.sn.ph,.int .i64 s.sn.ep,.int .i64 s.sn.ck,.int .i64 s.sn.sp,.slice Y.A s.sh.length Y.c,.int .i64 s.dc,.slice Y.Ad s.dl.length Y.cd,.slice Y.At s.st.length Y.ct,.int .i64 s.dir.vn,.slice Y.D.A s.dir.l.length Y.D.c,.slice Y.D.A2 s.dir.F.length Y.D.c2,.slice Y.o.A s.o.sh.length Y.o.c,.int .i64 s.o.dc,.slice Y.o.Ad s.o.dl.length Y.o.cd,.slice Y.o.Ao s.o.od.length Y.o.co,.slice Y.o.Ac s.o.ca.length Y.o.cc,.slice Y.o.Ae s.o.ed.length Y.o.ce,.int .i64 s.lim,.slice Y.Ac s.ca.length Y.cc] 42)) from ((Below.refl _ _).alloc (Nat.le_refl _) _).alloc (by simp) _)
 clear hp hq
 go_enter Tryz.func10,Tryz.ntmps10
 go_upto_region 1 with (fail)
 rw [←HPP.out.2,←HPP.out.1]
 generalize (w.alloc (.cells #[.int .i64 s.ph,.int .i64 s.at_,.slice X.Al s.lk.cs.length X.cl,.int .i64 s.lk.ph,.int .i64 s.lk.hv,.int .i64 s.lk.tr,.int .i64 s.lk.wt,.int .i64 s.sn.ph,.int .i64 s.sn.ep,.int .i64 s.sn.ck,.int .i64 s.sn.sp,.slice X.A s.sh.length X.c,.int .i64 s.dc,.slice X.Ad s.dl.length X.cd,.slice X.At s.st.length X.ct,.int .i64 s.dir.vn,.slice X.D.A s.dir.l.length X.D.c,.slice X.D.A2 s.dir.F.length X.D.c2,.slice X.o.A s.o.sh.length X.o.c,.int .i64 s.o.dc,.slice X.o.Ad s.o.dl.length X.o.cd,.slice X.o.Ao s.o.od.length X.o.co,.slice X.o.Ac s.o.ca.length X.o.cc,.slice X.o.Ae s.o.ed.length X.o.ce,.int .i64 s.lim,.slice X.Ac s.ca.length X.cc] 42)).alloc (.cells #[.int .i64 s.ph,.int .i64 s.at_,.slice Y.Al s.lk.cs.length Y.cl,.int .i64 s.lk.ph,.int .i64 s.lk.hv,.int .i64 s.lk.tr,.int .i64 s.lk.wt,.int .i64 s.sn.ph,.int .i64 s.sn.ep,.int .i64 s.sn.ck,.int .i64 s.sn.sp,.slice Y.A s.sh.length Y.c,.int .i64 s.dc,.slice Y.Ad s.dl.length Y.cd,.slice Y.At s.st.length Y.ct,.int .i64 s.dir.vn,.slice Y.D.A s.dir.l.length Y.D.c,.slice Y.D.A2 s.dir.F.length Y.D.c2,.slice Y.o.A s.o.sh.length Y.o.c,.int .i64 s.o.dc,.slice Y.o.Ad s.o.dl.length Y.o.cd,.slice Y.o.Ao s.o.od.length Y.o.co,.slice Y.o.Ac s.o.ca.length Y.o.cc,.slice Y.o.Ae s.o.ed.length Y.o.ce,.int .i64 s.lim,.slice Y.Ac s.ca.length Y.cc] 42)=w1 at*
 have y0:=HP.out.c 0 _ rfl
 have y1:=HP.out.c 1 _ rfl
 have y2:=HP.out.c 2 _ rfl
 have y3:=HP.out.c 3 _ rfl
 have y4:=HP.out.c 4 _ rfl
 have y5:=HP.out.c 5 _ rfl
 have y6:=HP.out.c 6 _ rfl
 have yl:=HP.out.lt
 have z0:=HQ.out.c 0 _ rfl
 have z1:=HQ.out.c 1 _ rfl
 have z2:=HQ.out.c 2 _ rfl
 have z3:=HQ.out.c 3 _ rfl
 have z4:=HQ.out.c 4 _ rfl
 have z5:=HQ.out.c 5 _ rfl
 have z6:=HQ.out.c 6 _ rfl
 have zl:=HQ.out.lt
 go_wp2_with fail
 clear y0 y1 y2 y3 y4 y5 y6 yl z0 z1 z2 z3 z4 z5 z6 zl
 refine (HS1.out _ HB.out).mono ?_
 rintro e wHS1 ⟨rfl,hb⟩
 replace HP:=Lh (HP.out.up hb)
 replace HQ:=Lh (HQ.out.up hb)
 replace HB:=Lh (HB.out.trans (hb.mono HB.out.size))
 clear hb HS1
 have y7:=HP.out.c 7 _ rfl
 have y8:=HP.out.c 8 _ rfl
 have y9:=HP.out.c 9 _ rfl
 have y10:=HP.out.c 10 _ rfl
 have y11:=HP.out.c 11 _ rfl
 have yl:=HP.out.lt
 have z7:=HQ.out.c 7 _ rfl
 have z8:=HQ.out.c 8 _ rfl
 have z9:=HQ.out.c 9 _ rfl
 have z10:=HQ.out.c 10 _ rfl
 have z11:=HQ.out.c 11 _ rfl
 have zl:=HQ.out.lt
 go_wp2_with fail
 clear y7 y8 y9 y10 y11 yl z7 z8 z9 z10 z11 zl
 refine (HS2.out _ HB.out).mono ?_
 rintro e wHS2 ⟨rfl,hb⟩
 replace HP:=Lh (HP.out.up hb)
 replace HQ:=Lh (HQ.out.up hb)
 replace HB:=Lh (HB.out.trans (hb.mono HB.out.size))
 clear hb HS2
 have y12:=HP.out.c 12 _ rfl
 have y13:=HP.out.c 13 _ rfl
 have yl:=HP.out.lt
 have z12:=HQ.out.c 12 _ rfl
 have z13:=HQ.out.c 13 _ rfl
 have zl:=HQ.out.lt
 go_wp2_with fail
 clear y12 y13 yl z12 z13 zl
 refine (HS3.out _ HB.out).mono ?_
 rintro e wHS3 ⟨rfl,hb⟩
 replace HP:=Lh (HP.out.up hb)
 replace HQ:=Lh (HQ.out.up hb)
 replace HB:=Lh (HB.out.trans (hb.mono HB.out.size))
 clear hb HS3
 have y14:=HP.out.c 14 _ rfl
 have yl:=HP.out.lt
 have z14:=HQ.out.c 14 _ rfl
 have zl:=HQ.out.lt
 go_wp2_with fail
 clear y14 yl z14 zl
 refine (HS4.out _ HB.out).mono ?_
 rintro e wHS4 ⟨rfl,hb⟩
 replace HP:=Lh (HP.out.up hb)
 replace HQ:=Lh (HQ.out.up hb)
 replace HB:=Lh (HB.out.trans (hb.mono HB.out.size))
 clear hb HS4
 have y15:=HP.out.c 15 _ rfl
 have y16:=HP.out.c 16 _ rfl
 have y17:=HP.out.c 17 _ rfl
 have yl:=HP.out.lt
 have z15:=HQ.out.c 15 _ rfl
 have z16:=HQ.out.c 16 _ rfl
 have z17:=HQ.out.c 17 _ rfl
 have zl:=HQ.out.lt
 go_wp2_with fail
 clear y15 y16 y17 yl z15 z16 z17 zl
 refine (HS5.out _ HB.out).mono ?_
 rintro e wHS5 ⟨rfl,hb⟩
 replace HP:=Lh (HP.out.up hb)
 replace HQ:=Lh (HQ.out.up hb)
 replace HB:=Lh (HB.out.trans (hb.mono HB.out.size))
 clear hb HS5
 have y18:=HP.out.c 18 _ rfl
 have y19:=HP.out.c 19 _ rfl
 have y20:=HP.out.c 20 _ rfl
 have y21:=HP.out.c 21 _ rfl
 have y22:=HP.out.c 22 _ rfl
 have y23:=HP.out.c 23 _ rfl
 have yl:=HP.out.lt
 have z18:=HQ.out.c 18 _ rfl
 have z19:=HQ.out.c 19 _ rfl
 have z20:=HQ.out.c 20 _ rfl
 have z21:=HQ.out.c 21 _ rfl
 have z22:=HQ.out.c 22 _ rfl
 have z23:=HQ.out.c 23 _ rfl
 have zl:=HQ.out.lt
 go_wp2_with fail
 clear y18 y19 y20 y21 y22 y23 yl z18 z19 z20 z21 z22 z23 zl
 refine (HS6.out _ HB.out).mono ?_
 rintro e wHS6 ⟨rfl,hb⟩
 replace HP:=Lh (HP.out.up hb)
 replace HQ:=Lh (HQ.out.up hb)
 replace HB:=Lh (HB.out.trans (hb.mono HB.out.size))
 clear hb HS6
 have y24:=HP.out.c 24 _ rfl
 have y25:=HP.out.c 25 _ rfl
 have yl:=HP.out.lt
 have z24:=HQ.out.c 24 _ rfl
 have z25:=HQ.out.c 25 _ rfl
 have zl:=HQ.out.lt
 go_wp2_with fail
 clear y24 y25 yl z24 z25 zl
 refine (HS7.out _ HB.out).mono ?_
 rintro e wHS7 ⟨rfl,hb⟩
 replace HP:=Lh (HP.out.up hb)
 replace HQ:=Lh (HQ.out.up hb)
 replace HB:=Lh (HB.out.trans (hb.mono HB.out.size))
 clear hb HS7
 have HFIN:=Lh HB.out
 clear HP HQ HB
 go_wp2
 go_ret
 exact ⟨rfl,HFIN.out⟩
end Go.Proofs.YtakjpmbgapipjaaGreat
