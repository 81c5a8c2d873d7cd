/- What is proved here: due.pushError and due.Push by contracts; due.Push by a contract; due.without by a contract; what a pop and a removal return: their posts, the box of an element. -/
import Derived.Test.YtdobenkkkkaipaaGreatJ15
import Derived.BigFrame
namespace Go.Proofs.YtdobenkkkkaipaaGreat
open Go.RowKit
set_option linter.unusedVariables false
abbrev D2 (W:World) (p:Nat) (d:Du):Prop:=W.cell? ⟨p,0,none⟩=some (.int .i64 d.dl)∧W.cell? ⟨p,1,none⟩=some (.int .i64 d.id)
theorem D2.below {B:Nat} {W W' : World} {p:Nat} {d:Du} (h:D2 W p d) (hb:Below B W W') (hp:p<B):D2 W' p d:=
 ⟨(hb.cell (p:=⟨p,0,none⟩) hp).trans h.1,(hb.cell (p:=⟨p,1,none⟩) hp).trans h.2⟩
theorem D2.start (w:World) (d:Du) (t:TypeId):D2 (w.alloc (.cells #[.int .i64 d.dl,.int .i64 d.id] t)) w.heap.size d:=by
 refine ⟨?_,?_⟩ <;> (rw [World.cell?_alloc_new];rfl)
set_option maxHeartbeats 2000000 in
theorem dpusherr_any (A:Option Addr) (n c:Nat) (l:List Du) (d:Du) (w:World) (hv:Dl w w.heap.size (.slice A n c) l) :
  Calls Tryz.prog 171 #[.slice A n c,d.v] w fun e w'=>e=.returned (.int .i64 (hpuE l d))∧Below w.heap.size w w':=by
 obtain ⟨rfl,hm1,hm2⟩:=hv.len
 have HB:=Lh ((Below.refl w.heap.size w).alloc (Nat.le_refl _) (.cells #[.int .i64 d.dl,.int .i64 d.id] 133))
 have HV0:=Lh ((hv.alloc (Nat.le_refl _) (.cells #[.int .i64 d.dl,.int .i64 d.id] 133)).more (show w.heap.size≤(w.alloc (.cells #[.int .i64 d.dl,.int .i64 d.id] 133)).heap.size by simp))
 have HD0:=Lh (D2.start w d 133)
 have HV:=Lh hv
 have HVA:=Lh (fun w1 hv=>dvalid_any A l.length c l w1 hv)
 have HO:=Lh (fun w1=>isout_any d w1)
 have HF:=Lh (fun w1 hv=>dfind_any A l.length c l d.id w1 hv)
 clear hv hm1 hm2
 by_cases h0:vaF l=0
 ·have hl:=(vaF_zero h0).1
  rw [h0] at HVA
  have hpu:hpuE l d=if snd d=false then 1 else if l.length=12 then 3 else if 0≤ixD l d.id then 10 else 0:=by
   unfold hpuE;rw [if_neg (by simpa using h0)]
  clear h0
  cases hs:snd d with
  | false=>
   have HR:=Lh (show hpuE l d=1 by rw [hpu,if_pos hs])
   rw [hs] at HO
   clear hpu hs
   go_enter Tryz.func171,Tryz.ntmps171
   go_wp2_with fail
   refine (HVA.out _ HV0.out).mono ?_
   rintro e w1 ⟨rfl,hb⟩
   have HB1:=Lh (HB.out.trans (hb.mono HB.out.size))
   obtain ⟨c0,c1⟩:=HD0.out.below hb (by simp)
   clear hb
   go_wp2_with fail
   refine (HO.out _).mono ?_
   rintro e w2 ⟨rfl,hb⟩
   have HB2:=Lh (HB1.out.trans (hb.mono HB1.out.size))
   clear hb c0 c1
   go_wp2
   go_ret
   exact ⟨by rw [HR.out];rfl,HB2.out⟩
  | true=>
   rw [hs] at HO
   by_cases h12:l.length=12
   ·have HR:=Lh (show hpuE l d=3 by rw [hpu,if_neg (by simp [hs]),if_pos h12])
    have h12' : ((l.length:Int)==12)=true:=by simp;omega
    clear hpu hs h12
    go_enter Tryz.func171,Tryz.ntmps171
    go_wp2_with fail
    refine (HVA.out _ HV0.out).mono ?_
    rintro e w1 ⟨rfl,hb⟩
    have HB1:=Lh (HB.out.trans (hb.mono HB.out.size))
    obtain ⟨c0,c1⟩:=HD0.out.below hb (by simp)
    clear hb
    go_wp2_with fail
    refine (HO.out _).mono ?_
    rintro e w2 ⟨rfl,hb⟩
    have HB2:=Lh (HB1.out.trans (hb.mono HB1.out.size))
    clear hb c0 c1
    go_wp2
    go_ret
    exact ⟨by rw [HR.out];rfl,HB2.out⟩
   ·have h12' : ((l.length:Int)==12)=false:=by simp;omega
    have hpu2:hpuE l d=if 0≤ixD l d.id then 10 else 0:=by rw [hpu,if_neg (by simp [hs]),if_neg h12]
    clear hpu hs h12
    obtain ⟨k,hk⟩:∃ k:Bool,k=decide (0≤ixD l d.id):=⟨_,rfl⟩
    have HR:=Lh (show hpuE l d=if k=true then 10 else 0 by rw [hpu2,hk];simp)
    clear hpu2
    generalize ixD l d.id=r at*
    cases k with
    | true=>
     have hr:0≤r:=of_decide_eq_true hk.symm
     clear hk
     go_enter Tryz.func171,Tryz.ntmps171
     go_wp2_with fail
     refine (HVA.out _ HV0.out).mono ?_
     rintro e w1 ⟨rfl,hb⟩
     have HB1:=Lh (HB.out.trans (hb.mono HB.out.size))
     have HD1:=Lh (HD0.out.below hb (by simp))
     obtain ⟨c0,c1⟩:=HD1.out
     clear hb
     have HPL:=Lh (show w.heap.size<w1.heap.size by have:=HB1.out.size;have h2:=World.block_lt_of_cell? w1 ⟨w.heap.size,0,none⟩ c0;exact h2)
     go_wp2_with fail
     refine (HO.out _).mono ?_
     rintro e w2 ⟨rfl,hb⟩
     have HB2:=Lh (HB1.out.trans (hb.mono HB1.out.size))
     clear c0 c1
     obtain ⟨c0,c1⟩:=HD1.out.below hb HPL.out
     clear hb
     go_wp2_with fail
     refine (HF.out _ (HV.out.up HB2.out)).mono ?_
     rintro e w3 ⟨rfl,hb⟩
     have HB3:=Lh (HB2.out.trans (hb.mono HB2.out.size))
     clear hb c0 c1
     go_wp2
     go_ret
     exact ⟨by rw [HR.out];rfl,HB3.out⟩
    | false=>
     have hr:¬0≤r:=of_decide_eq_false hk.symm
     clear hk
     go_enter Tryz.func171,Tryz.ntmps171
     go_wp2_with fail
     refine (HVA.out _ HV0.out).mono ?_
     rintro e w1 ⟨rfl,hb⟩
     have HB1:=Lh (HB.out.trans (hb.mono HB.out.size))
     have HD1:=Lh (HD0.out.below hb (by simp))
     obtain ⟨c0,c1⟩:=HD1.out
     clear hb
     have HPL:=Lh (show w.heap.size<w1.heap.size by have:=HB1.out.size;have h2:=World.block_lt_of_cell? w1 ⟨w.heap.size,0,none⟩ c0;exact h2)
     go_wp2_with fail
     refine (HO.out _).mono ?_
     rintro e w2 ⟨rfl,hb⟩
     have HB2:=Lh (HB1.out.trans (hb.mono HB1.out.size))
     clear c0 c1
     obtain ⟨c0,c1⟩:=HD1.out.below hb HPL.out
     clear hb
     go_wp2_with fail
     refine (HF.out _ (HV.out.up HB2.out)).mono ?_
     rintro e w3 ⟨rfl,hb⟩
     have HB3:=Lh (HB2.out.trans (hb.mono HB2.out.size))
     clear hb c0 c1
     go_wp2
     go_ret
     exact ⟨by rw [HR.out];rfl,HB3.out⟩
 ·have HR:=Lh (show hpuE l d=vaF l by unfold hpuE;rw [if_pos h0])
  have hne:(vaF l != 0)=true:=bne_iff_ne.2 h0
  generalize vaF l=x at*
  clear h0
  go_enter Tryz.func171,Tryz.ntmps171
  go_wp2_with fail
  refine (HVA.out _ HV0.out).mono ?_
  rintro e w1 ⟨rfl,hb⟩
  have HB1:=Lh (HB.out.trans (hb.mono HB.out.size))
  clear hb
  go_wp2
  go_ret
  exact ⟨by rw [HR.out];rfl,HB1.out⟩
def DlE (w:World) (l:List Du) (x:Int) (e:Ending) (w' : World):Prop:=∃ A c,e=.returned (.tuple #[.slice A l.length c,.int .i64 x])∧Nw w.heap.size A∧Dl w' w'.heap.size (.slice A l.length c) l∧Below w.heap.size w w'
structure PuAt (w:World) (l:List Du) (g cap:Nat) (W:World):Prop where
 row:RwAt w g l.length l W
 new:w.heap.size≤g
 le:l.length≤cap
 mx:cap≤maxLen
 bel:Below w.heap.size w W
theorem push_end {w W w1:World} {h:List Du} {d:Du} {g cap base:Nat} {v:Value} (hB:Below w.heap.size w W) (hv:W.ownsRow base 133 2 v h.length (dcs h)) (hb:w.heap.size≤base)
  (hown:w1.ownsRow base 133 2 (.slice (some ⟨g,0,none⟩) (h.length+1) cap) (h.length+1) (dcs h++d.l)) (hg:W.grownBy w1 v.ownBlock) :
  DRow w1 g (h.length+1) (ge (h++[d]))∧w.heap.size≤g∧h.length+1≤cap∧cap≤maxLen∧Below w.heap.size w w1:=by
 have hown2:w1.ownsRow base 133 2 (.slice (some ⟨g,0,none⟩) (h.length+1) cap) (h.length+1) (dcs (h++[d])):=by
  rw [dcs_app,show dcs [d]=d.l by simp [dcs]];exact hown
 have h1:=hown2.lt g rfl
 have h2:h.length+1≤cap∧cap≤maxLen:=by
  rcases hown2.2 with ⟨e,_⟩ | ⟨g',cap',cur,e,_,_,hl,hm,_⟩
  ·cases e
  ·injection e with _ _ e3
   subst e3
   exact ⟨hl,hm⟩
 exact ⟨DRow.of_own hown2,Nat.le_trans hb h1.1,h2.1,h2.2,hB.grown hg hB.size (fun k e=>Nat.le_trans hb (hv.lt k e).1)⟩
theorem du_one (d:Du):∀ u∈d.l,u.oneCell' = true:=by
 intro u hu
 simp only [Du.l,List.mem_cons,List.not_mem_nil,or_false] at hu
 rcases hu with rfl | rfl <;> rfl
theorem D2.grown {W W' : World} {p base n:Nat} {d:Du} {v:Value} {xs:List Value} (h:D2 W p d) (ho:W.ownsRow base 133 2 v n xs) (hp:p<base) (hb:base≤W.heap.size) (hg:W.grownBy W' v.ownBlock):D2 W' p d:=by
 have hne:some p≠v.ownBlock:=fun e=>by have:=(ho.lt p e.symm).1;omega
 exact ⟨(hg.cell_far ⟨p,0,none⟩ (by show p<_;omega) hne).trans h.1,(hg.cell_far ⟨p,1,none⟩ (by show p<_;omega) hne).trans h.2⟩
theorem push_pre0 {w w1 w2:World} {l:List Du} {d:Du} {p:Nat} {v:Value} (hB:Below w.heap.size w w1) (hp:p<w1.heap.size) (hs:D2 w1.drew p d) (ho:w2.ownsRow w1.drew.heap.size 133 2 v l.length (dcs l)) (hb:Below w1.drew.heap.size w1.drew w2) :
  D2 w2 p d∧D2 (w2.alloc (.cells #[.int .i64 d.dl,.int .i64 d.id] 133)) p d∧(w2.alloc (.cells #[.int .i64 d.dl,.int .i64 d.id] 133)).ownsRow w1.heap.size 133 2 v l.length (dcs l)∧w1.heap.size≤(w2.alloc (.cells #[.int .i64 d.dl,.int .i64 d.id] 133)).heap.size∧Below w.heap.size w (w2.alloc (.cells #[.int .i64 d.dl,.int .i64 d.id] 133))∧∀ j u,d.l[j]? = some u→(w2.alloc (.cells #[.int .i64 d.dl,.int .i64 d.id] 133)).cell? ((⟨w2.heap.size,0,none⟩:Addr).add j)=some u:=by
 have hs2:D2 w2 p d:=hs.below hb hp
 have hsz:w1.heap.size≤w2.heap.size:=hb.size
 have hb2:Below w.heap.size w w2:=hB.trans ((drew_bel hb).mono hB.size)
 refine ⟨hs2,hs2.below ((Below.refl w2.heap.size w2).alloc (Nat.le_refl _) _) (by omega),ho.alloc _,by simp;omega,hb2.alloc hb2.size _,fun j u hu=>?_⟩
 rw [add_mk,Nat.zero_add,World.cell?_alloc_new]
 rw [←hu]
 simp [Du.l]
theorem push_pre1 {w w1 w2:World} {l:List Du} {d:Du} {p:Nat} {v:Value} (hB:Below w.heap.size w w1) (hp:p<w1.heap.size) (hs:D2 (w1.alloc (.cells #[.int .i64 d.dl,.int .i64 d.id] 133)).drew p d) (ho:w2.ownsRow (w1.alloc (.cells #[.int .i64 d.dl,.int .i64 d.id] 133)).drew.heap.size 133 2 v l.length (dcs l)) (hb:Below (w1.alloc (.cells #[.int .i64 d.dl,.int .i64 d.id] 133)).drew.heap.size (w1.alloc (.cells #[.int .i64 d.dl,.int .i64 d.id] 133)).drew w2) :
  D2 w2 p d∧w2.ownsRow w1.heap.size 133 2 v l.length (dcs l)∧w1.heap.size≤w2.heap.size∧Below w.heap.size w w2∧∀ j u,d.l[j]? = some u→w2.cell? ((⟨w1.heap.size,0,none⟩:Addr).add j)=some u:=by
 have hz:(w1.alloc (.cells #[.int .i64 d.dl,.int .i64 d.id] 133)).drew.heap.size=w1.heap.size+1:=by simp
 have hb':=drew_bel hb
 have hz' : (w1.alloc (.cells #[.int .i64 d.dl,.int .i64 d.id] 133)).heap.size=w1.heap.size+1:=by simp
 have hsz:w1.heap.size+1≤w2.heap.size:=by rw [←hz];exact hb.size
 refine ⟨hs.below hb (by rw [hz];omega),own_low ho (by rw [hz];omega),by omega,(hB.alloc hB.size _).trans (hb'.mono (by rw [hz'];have:=hB.size;omega)),fun j u hu=>?_⟩
 rw [add_mk,Nat.zero_add,hb'.cell (p:=⟨w1.heap.size,j,none⟩) (by show w1.heap.size<_;rw [hz'];omega),World.cell?_alloc_new]
 rw [←hu]
 simp [Du.l]
set_option maxHeartbeats 4000000 in
set_option maxRecDepth 20000 in
theorem dpush_any (A:Option Addr) (n c:Nat) (l:List Du) (d:Du) (w:World) (hv:Dl w w.heap.size (.slice A n c) l) :
  Calls Tryz.prog 138 #[.slice A n c,d.v] w (DlE w (puR l d) (hpuE l d)):=by
 obtain ⟨rfl,hm1,hm2⟩:=hv.len
 have HB:=Lh ((Below.refl w.heap.size w).alloc (Nat.le_refl _) (.cells #[.int .i64 d.dl,.int .i64 d.id] 133))
 have HV0:=Lh ((hv.alloc (Nat.le_refl _) (.cells #[.int .i64 d.dl,.int .i64 d.id] 133)).more (show w.heap.size≤(w.alloc (.cells #[.int .i64 d.dl,.int .i64 d.id] 133)).heap.size by simp))
 have HD0:=Lh (D2.start w d 133)
 have HV:=Lh hv
 have HPE:=Lh (fun w1 hv=>dpusherr_any A l.length c l d w1 hv)
 clear hv hm1 hm2
 by_cases h0:hpuE l d=0
 ·have HPR:=Lh (show puR l d=hpu l d from if_pos h0)
  obtain ⟨hva,hsn,hl12,hid⟩:=hpuE_zero h0
  rw [h0] at HPE
  have HCL:=Lh (fun w1 hv=>dclone_any A l.length c l w1 hv (by omega))
  have HSU:=Lh (fun g cap w1 hr=>siftup_any g (l.length+1) cap l.length (l++[d]) w1 hr (by simp) (by omega) (by omega))
  have HL12:=Lh hl12
  have hl100:(l.length:Int)≤100:=by omega
  obtain ⟨i0,hi0,hz0⟩:=Option.map_eq_some_iff.1 info_due
  simp only [Prod.mk.injEq] at hz0
  have HI:=Lh hi0
  have HZ:=Lh hz0
  rw [h0]
  clear h0 hva hsn hl12 hid hi0 hz0
  go_enter Tryz.func138,Tryz.ntmps138
  go_wp2_with fail
  refine (HPE.out _ HV0.out).mono ?_
  rintro e w1 ⟨rfl,hb⟩
  have HB1:=Lh (HB.out.trans (hb.mono HB.out.size))
  have HD1:=Lh (HD0.out.below hb (by simp))
  clear hb
  go_wp2_with fail
  obtain ⟨p,hp⟩:∃ p,p=w.heap.size:=⟨_,rfl⟩
  have HPP:=Lh hp
  rw [←hp] at HD1 ⊢
  clear hp
  go_cut [0] (fun s0 wx=>∃ g cap,s0=.slice (some ⟨g,0,none⟩) (l.length+1) cap∧DRow wx g (l.length+1) (ge (l++[d]))∧w.heap.size≤g∧l.length+1≤cap∧cap≤maxLen∧Below w.heap.size w wx)
  case first=>
   obtain ⟨c0,c1⟩:=HD1.out
   have hpl:=World.block_lt_of_cell? w1 ⟨p,0,none⟩ c0
   have HPL:=Lh hpl
   have HS0:=Lh (show D2 w1.drew p d from HD1.out)
   have HS1:=Lh (HD1.out.below (W':=(w1.alloc (.cells #[.int .i64 d.dl,.int .i64 d.id] 133)).drew) (((Below.refl w1.heap.size w1).alloc (Nat.le_refl _) _).drew) hpl)
   have HA0:=Lh (show Dl w1.drew w1.drew.heap.size (.slice A l.length c) l from HV.out.up HB1.out.drew)
   have HA1:=Lh (show Dl (w1.alloc (.cells #[.int .i64 d.dl,.int .i64 d.id] 133)).drew (w1.alloc (.cells #[.int .i64 d.dl,.int .i64 d.id] 133)).drew.heap.size (.slice A l.length c) l from HV.out.up ((HB1.out.alloc HB1.out.size _).drew))
   have HP0:=Lh (fun w2 v ho hb=>push_pre0 (w:=w) (w1:=w1) (w2:=w2) (l:=l) (d:=d) (p:=p) (v:=v) HB1.out HPL.out HS0.out ho hb)
   have HP1:=Lh (fun w2 v ho hb=>push_pre1 (w:=w) (w1:=w1) (w2:=w2) (l:=l) (d:=d) (p:=p) (v:=v) HB1.out HPL.out HS1.out ho hb)
   clear hpl
   go_region_held3 (fun W=>W.cell? ⟨p,0,none⟩=some (.int .i64 d.dl)∧W.cell? ⟨p,1,none⟩=some (.int .i64 d.id))
    (first | with_reducible exact HS0.out | with_reducible exact HS1.out | with_reducible exact HS2.out | with_reducible exact HS3.out | with_reducible exact HS4.out)
    (first
    | (refine step_append_lies _ (by rfl) _ _ _ (by rfl) w1.heap.size 133 i0 _ 2 16 Tryz.underlying29 HI.out HZ.out.1 HZ.out.2.1 HZ.out.2.2 rfl (by omega) v l.length (dcs l) (by rfl) HO.out ⟨w2.heap.size,0,none⟩ 1 1 d.l (by rfl) (by simp [Du.l_len]) HN.out (du_one d) (by omega) (by have:=HL12.out;unfold maxLen;omega) (by have:=HL12.out;omega) HBS.out _ rfl ?_;intro g1 cap1 w3 hown1 hgrow1 hat1 hlt1;have HFN:=Lh (push_end HBF.out HO.out HB1.out.size hown1 hgrow1);have HS4:=Lh (HS3.out.grown HO.out HPL.out HBS.out hgrow1);clear hown1 hgrow1 hat1 hlt1)
    | (refine step_append_lies _ (by rfl) _ _ _ (by rfl) w1.heap.size 133 i0 _ 2 16 Tryz.underlying29 HI.out HZ.out.1 HZ.out.2.1 HZ.out.2.2 rfl (by omega) v l.length (dcs l) (by rfl) HO.out ⟨w1.heap.size,0,none⟩ 1 1 d.l (by rfl) (by simp [Du.l_len]) HN.out (du_one d) (by omega) (by have:=HL12.out;unfold maxLen;omega) (by have:=HL12.out;omega) HBS.out _ rfl ?_;intro g1 cap1 w3 hown1 hgrow1 hat1 hlt1;have HFN:=Lh (push_end HBF.out HO.out HB1.out.size hown1 hgrow1);have HS4:=Lh (HS3.out.grown HO.out HPL.out HBS.out hgrow1);clear hown1 hgrow1 hat1 hlt1)
    | (go_at_call 128;(with_reducible refine (HCL.out _ HA0.out).mono ?_);rintro e w2 ⟨v,rfl,ho,hb⟩;obtain ⟨hs2,hs3,ho3,hbs,hbf,hn⟩:=HP0.out _ _ ho hb;have HS2:=Lh hs2;have HS3:=Lh hs3;have HO:=Lh ho3;have HBS:=Lh hbs;have HBF:=Lh hbf;have HN:=Lh hn;clear ho hb hs2 hs3 ho3 hbs hbf hn)
    | (go_at_call 128;(with_reducible refine (HCL.out _ HA1.out).mono ?_);rintro e w2 ⟨v,rfl,ho,hb⟩;obtain ⟨hs3,ho3,hbs,hbf,hn⟩:=HP1.out _ _ ho hb;have HS3:=Lh hs3;have HO:=Lh ho3;have HBS:=Lh hbs;have HBF:=Lh hbf;have HN:=Lh hn;clear ho hb hs3 ho3 hbs hbf hn))
   all_goals (go_wp2_with fail;go_meet;exact ⟨g1,cap1,rfl,HFN.out⟩)
  case rest=>
   obtain ⟨g,cap,rfl,hrow,hg,hle,hmx,hbel⟩:=hcut
   have HSG:=Lh (HSU.out g cap wc hrow)
   have HB2:=Lh hbel
   have HG:=Lh hg
   have HM:=Lh (And.intro hle hmx)
   clear hrow hg hle hmx hbel
   go_wp2_with fail
   refine HSG.out.mono ?_
   rintro e w3 ⟨rfl,hr⟩
   have hlen:(upF (l++[d]) l.length).length=l.length+1:=by rw [upF_len];simp
   have HD:=Lh (show Dl w3 w3.heap.size (.slice (some ⟨g,0,none⟩) (l.length+1) cap) (hpu l d) from by
    have h1:=hr.row.dl (l.length+1) cap (Nat.le_refl _) HM.out.1 HM.out.2
    have h2:(List.range (l.length+1)).map (ge (upF (l++[d]) l.length))=upF (l++[d]) l.length:=by
     have:=ge_row (upF (l++[d]) l.length)
     rw [hlen] at this
     exact this
    rw [h2] at h1
    exact h1)
   have HBZ:=Lh (HB2.out.trans (hr.bel.mono HG.out))
   have HPL:=Lh (puF_len l d)
   clear hr hlen
   go_wp2
   exact bodyPost_ret (v:=.tuple #[.slice (some ⟨g,0,none⟩) (l.length+1) cap,.int .i64 0]) (by simp only [results,Tryz.results138];go_simp <;> rfl) rfl ⟨some ⟨g,0,none⟩,cap,by rw [HPR.out,HPL.out],nw_some HG.out,by rw [HPR.out,HPL.out];exact HD.out,HBZ.out⟩
 ·have HC:=Lh (show puR l d=[] from if_neg h0)
  have hne:(hpuE l d != 0)=true:=bne_iff_ne.2 h0
  generalize hpuE l d=x at*
  clear h0
  go_enter Tryz.func138,Tryz.ntmps138
  go_wp2_with fail
  refine (HPE.out _ HV0.out).mono ?_
  rintro e w1 ⟨rfl,hb⟩
  have HB1:=Lh (HB.out.trans (hb.mono HB.out.size))
  clear hb
  go_wp2
  exact bodyPost_ret (v:=.tuple #[.slice none 0 0,.int .i64 x]) (by simp only [results,Tryz.results138];go_simp <;> rfl) rfl ⟨none,0,by rw [HC.out];rfl,nw_none,by rw [HC.out];exact Dl.nil,HB1.out⟩
def DlV (w:World) (l:List Du) (e:Ending) (w' : World):Prop:=∃ A c,e=.returned (.slice A l.length c)∧Nw w.heap.size A∧Dl w' w'.heap.size (.slice A l.length c) l∧Below w.heap.size w w'
theorem DRow.dl' {W:World} {q n cap:Nat} {h:List Du} (r:DRow W q n (ge h)) (hn:h.length=n) (hc:n≤cap) (hm:cap≤maxLen):Dl W W.heap.size (.slice (some ⟨q,0,none⟩) n cap) h:=by
 have h1:=r.dl n cap (Nat.le_refl _) hc hm
 have h2:(List.range n).map (ge h)=h:=by rw [←hn];exact ge_row h
 rw [h2] at h1
 exact h1
theorem own_row {W:World} {base n:Nat} {l:List Du} {v:Value} (ho:W.ownsRow base 133 2 v n (dcs l)) (h0:0<n):∃ q cap,v=.slice (some ⟨q,0,none⟩) n cap∧base≤q∧n≤cap∧cap≤maxLen∧DRow W q n (ge l):=by
 rcases ho.2 with ⟨_,h⟩ | ⟨q,cap,cur,hv,hq,_,hl,hm,_⟩
 ·omega
 ·subst hv
  exact ⟨q,cap,rfl,hq,hl,hm,DRow.of_own ho⟩
theorem RwAt.put {w W:World} {q n i:Nat} {h:List Du} (r:RwAt w q n h W) (hi:i<n) (d:Du):RwAt w q n (h.set i d) ((W.setCell ⟨q,i*2,none⟩ (.int .i64 d.dl)).setCell ⟨q,i*2+1,none⟩ (.int .i64 d.id)):=
 ⟨(r.row.put hi d).congr fun t ht=>by rw [ge_set _ _ _ _ (by rw [r.len];exact hi)],by rw [List.length_set];exact r.len,(r.bel.setCell (p:=⟨q,i*2,none⟩) (Nat.le_refl _) _).setCell (p:=⟨q,i*2+1,none⟩) (Nat.le_refl _) _⟩
theorem cuF_last {l:List Du} {m:Nat} (hl:l.length=m+1):cuF l m=l.take m:=by
 unfold cuF;rw [hl,Nat.add_sub_cancel,if_pos rfl]
theorem cuF_up {l:List Du} {m i:Nat} (hl:l.length=m+1) (hi:i≠m) (hb:bef (ge ((l.take m).set i (ge l m)) i) (ge ((l.take m).set i (ge l m)) ((i - 1) / 2))=true):cuF l i=upF ((l.take m).set i (ge l m)) i:=by
 have h0:0<i:=by
  rcases Nat.eq_zero_or_pos i with e | e
  ·subst e;rw [bef_irr] at hb;cases hb
  ·exact e
 unfold cuF;rw [hl,Nat.add_sub_cancel,if_neg hi,if_pos ⟨h0,hb⟩]
theorem cuF_dn {l:List Du} {m i:Nat} (hl:l.length=m+1) (hi:i≠m) (hb:bef (ge ((l.take m).set i (ge l m)) i) (ge ((l.take m).set i (ge l m)) ((i - 1) / 2))=false):cuF l i=dnF ((l.take m).set i (ge l m)) i:=by
 unfold cuF;rw [hl,Nat.add_sub_cancel,if_neg hi,if_neg (fun hc=>by rw [hb] at hc;exact absurd hc.2 (by decide))]
set_option maxHeartbeats 4000000 in
set_option maxRecDepth 20000 in
theorem dwithout_any (A:Option Addr) (m c i:Nat) (l:List Du) (w:World) (hv:Dl w w.heap.size (.slice A (m+1) c) l) (hi:i≤m) (h100:m≤99) :
  Calls Tryz.prog 195 #[.slice A (m+1) c,.int .i64 i] w (DlV w (cuF l i)):=by
 obtain ⟨hn,hm1,hm2⟩:=hv.len
 have hlen:l.length=m+1:=hn.symm
 have HLEN:=Lh hlen
 obtain ⟨b,o,rfl,hb,c0,c1⟩:=hv.atg (k:=m) (by omega)
 obtain ⟨X,hX⟩:∃ X,ge l m=X:=⟨_,rfl⟩
 have HX:=Lh hX
 rw [hX] at c0 c1
 have hlt:(l.take m).length=m:=by rw [List.length_take];omega
 have HB:=Lh ((Below.refl w.heap.size w).alloc (Nat.le_refl _) (.cells #[.int .i64 X.dl,.int .i64 X.id] 133))
 have HV0:=Lh (((hv.alloc (Nat.le_refl _) (.cells #[.int .i64 X.dl,.int .i64 X.id] 133)).more (show w.heap.size≤(w.alloc (.cells #[.int .i64 X.dl,.int .i64 X.id] 133)).heap.size by simp)).upto m (by omega))
 have HD0:=Lh (D2.start w X 133)
 have hcut:=run_dupto (some ⟨b,o,none⟩) (m+1) c .i64 m (by omega)
 have HCL:=Lh (fun w1 hv=>dclone_any (some ⟨b,o,none⟩) m c (l.take m) w1 hv (by omega))
 have hm9:(m:Int)≤99:=by omega
 have him:(i:Int)≤(m:Int):=by omega
 have hmlt:(m:Int)<((m+1:Nat):Int):=by omega
 clear hv hn hlen hm1 hm2 hX hb
 go_enter Tryz.func195,Tryz.ntmps195
 go_wp2_with fail
 obtain ⟨p,hp⟩:∃ p,p=w.heap.size:=⟨_,rfl⟩
 have HPP:=Lh hp
 rw [←hp] at HD0 ⊢
 clear hp
 refine (HCL.out _ HV0.out).mono ?_
 rintro e w1 ⟨v,rfl,ho,hb⟩
 rw [hlt] at ho
 have HB1:=Lh (HB.out.trans (hb.mono HB.out.size))
 have HD1:=Lh (HD0.out.below hb (by have:=HPP.out;simp;omega))
 have HSZ:=Lh (show (w.alloc (.cells #[.int .i64 X.dl,.int .i64 X.id] 133)).heap.size=w.heap.size+1 by simp)
 have HPL:=Lh (World.block_lt_of_cell? w1 ⟨p,0,none⟩ HD1.out.1)
 have HO:=Lh ho
 clear ho hb hlt hcut c0 c1
 by_cases hime:i=m
 ·subst hime
  have HF:=Lh (show DlV w (cuF l i) (.returned v) w1 from by
   have ho:=HO.out
   have hl:=HLEN.out
   obtain ⟨A',c',rfl⟩:=own_form ho
   have hd:=Dl.of_own ho
   have hlt:(l.take i).length=i:=by rw [List.length_take];omega
   refine ⟨A',c',by rw [cuF_last hl,hlt],nwv_of (nwv_own ho (by rw [HSZ.out];omega)),?_,HB1.out⟩
   rw [cuF_last hl,hlt]
   exact hd)
  go_wp2
  go_ret
  exact HF.out
 ·obtain ⟨q,cap,rfl,hq,hle,hmx,hrow⟩:=own_row HO.out (by omega)
  have hlt:(l.take m).length=m:=by rw [List.length_take];have:=HLEN.out;omega
  have hilt:i<m:=by omega
  have HR:=Lh (RwAt.mk (w:=w1) hrow hlt (Below.refl q w1))
  have HQ:=Lh (show w.heap.size≤q∧p<q from by have:=HPP.out;have:=HSZ.out;omega)
  have HM:=Lh (And.intro hle hmx)
  have hieq:((i:Int)==(m:Int))=false:=by simp;omega
  have hilt' : (i:Int)<(m:Int):=by omega
  clear hrow hq hle hmx hlt hime
  obtain ⟨x0,x1⟩:=HD1.out
  obtain ⟨c0,c1,f0,f1,hql⟩:=HR.out.row.at_ hilt
  go_wp2
  have HR2:=Lh (HR.out.put hilt X)
  have HD2:=Lh (show D2 ((w1.setCell ⟨q,i*2,none⟩ (.int .i64 X.dl)).setCell ⟨q,i*2+1,none⟩ (.int .i64 X.id)) p X from ⟨by rw [World.cell?_setCell_other _ _ _ _ (fun e=>by injection e with e _ _;have:=HQ.out;omega),World.cell?_setCell_other _ _ _ _ (fun e=>by injection e with e _ _;have:=HQ.out;omega)];exact x0,by rw [World.cell?_setCell_other _ _ _ _ (fun e=>by injection e with e _ _;have:=HQ.out;omega),World.cell?_setCell_other _ _ _ _ (fun e=>by injection e with e _ _;have:=HQ.out;omega)];exact x1⟩)
  clear x0 x1 c0 c1 f0 f1 hql
  generalize ((w1.setCell ⟨q,i*2,none⟩ (.int .i64 X.dl)).setCell ⟨q,i*2+1,none⟩ (.int .i64 X.id))=w2 at*
  obtain ⟨y,hy⟩:∃ y,y=(l.take m).set i X:=⟨_,rfl⟩
  rw [←hy] at HR2
  have HY:=Lh hy
  have HYI:=Lh (show ge y i=X from by rw [hy,ge_set _ _ _ _ (by rw [List.length_take];have:=HLEN.out;omega),if_pos rfl])
  clear hy
  obtain ⟨r,hr⟩:∃ r,r=(i - 1) / 2:=⟨_,rfl⟩
  have hrm:r<m:=by omega
  have HPA:=Lh (fun w=>parent_any i (by omega) w)
  rw [←hr] at HPA
  have HRR:=Lh hr
  clear hr
  obtain ⟨Y,hY⟩:∃ Y,ge y r=Y:=⟨_,rfl⟩
  obtain ⟨x0,x1⟩:=HD2.out
  obtain ⟨c0,c1,f0,f1,hql⟩:=HR2.out.row.at_ hrm
  rw [hY] at c0 c1
  have HBE:=Lh (fun w=>before_any X Y w)
  have hrm' : (r:Int)<(m:Int):=by omega
  have HS0:=Lh (show w2.drew.cell? ⟨p,0,none⟩=some (.int .i64 X.dl)∧w2.drew.cell? ⟨p,1,none⟩=some (.int .i64 X.id)∧w2.drew.cell? ⟨q,r*2,none⟩=some (.int .i64 Y.dl)∧w2.drew.cell? ⟨q,r*2+1,none⟩=some (.int .i64 Y.id) from ⟨x0,x1,c0,c1⟩)
  have hpl2:=World.block_lt_of_cell? w2 ⟨p,0,none⟩ x0
  have HSC:=Lh (fun w3 (hb:Below w2.drew.heap.size w2.drew w3)=>show (w3.cell? ⟨p,0,none⟩=some (.int .i64 X.dl)∧w3.cell? ⟨p,1,none⟩=some (.int .i64 X.id)∧w3.cell? ⟨q,r*2,none⟩=some (.int .i64 Y.dl)∧w3.cell? ⟨q,r*2+1,none⟩=some (.int .i64 Y.id))∧RwAt w1 q m y w3 from ⟨⟨(hb.cell (p:=⟨p,0,none⟩) hpl2).trans x0,(hb.cell (p:=⟨p,1,none⟩) hpl2).trans x1,(hb.cell (p:=⟨q,r*2,none⟩) hql).trans c0,(hb.cell (p:=⟨q,r*2+1,none⟩) hql).trans c1⟩,HR2.out.drew.below hb⟩)
  clear f0 f1 hql hpl2
  have HFI:=Lh (fun (z:List Du) (hz:z=cuF l i) w4 (hr4:RwAt w1 q m z w4)=>show DlV w (cuF l i) (.returned (.slice (some ⟨q,0,none⟩) m cap)) w4 from by
   subst hz
   have hcl:(cuF l i).length=m:=hr4.len
   exact ⟨some ⟨q,0,none⟩,cap,by rw [hcl],nw_some HQ.out.1,by rw [hcl];exact hr4.row.dl' hcl HM.out.1 HM.out.2,HB1.out.trans (hr4.bel.mono HQ.out.1)⟩)
  cases hb:bef X Y with
  | true=>
   have HCU:=Lh (show upF y i=cuF l i from by
    rw [HY.out,←HX.out,cuF_up HLEN.out (by omega)]
    rw [HX.out,←HY.out,HYI.out,←HRR.out,hY]
    exact hb)
   rw [hb] at HBE
   clear hb hY
   go_region_held3 (fun W=>W.cell? ⟨p,0,none⟩=some (.int .i64 X.dl)∧W.cell? ⟨p,1,none⟩=some (.int .i64 X.id)∧W.cell? ⟨q,r*2,none⟩=some (.int .i64 Y.dl)∧W.cell? ⟨q,r*2+1,none⟩=some (.int .i64 Y.id))
    (first | with_reducible exact HS0.out | with_reducible exact HS1.out)
    (first
    | (go_at_call 190;(with_reducible refine (HPA.out _).mono ?_);rintro e w3 ⟨rfl,rfl⟩)
    | (go_at_call 189;(with_reducible refine (HBE.out _).mono ?_);rintro e w3 ⟨rfl,hb3⟩;obtain ⟨hs3,hr3⟩:=HSC.out _ hb3;have HS1:=Lh hs3;have HR3:=Lh hr3;clear hb3 hs3 hr3))
   have HSU:=Lh (siftup_any q m cap i y w3 HR3.out.row HR3.out.len hilt (by omega))
   go_wp2_with fail
   refine HSU.out.mono ?_
   rintro e w4 ⟨rfl,hr4⟩
   have HF:=Lh (HFI.out _ HCU.out w4 ⟨hr4.row,hr4.len,HR3.out.bel.trans hr4.bel⟩)
   clear hr4
   go_wp2
   go_ret
   exact HF.out
  | false=>
   have HCU:=Lh (show dnF y i=cuF l i from by
    rw [HY.out,←HX.out,cuF_dn HLEN.out (by omega)]
    rw [HX.out,←HY.out,HYI.out,←HRR.out,hY]
    exact hb)
   rw [hb] at HBE
   clear hb hY
   go_region_held3 (fun W=>W.cell? ⟨p,0,none⟩=some (.int .i64 X.dl)∧W.cell? ⟨p,1,none⟩=some (.int .i64 X.id)∧W.cell? ⟨q,r*2,none⟩=some (.int .i64 Y.dl)∧W.cell? ⟨q,r*2+1,none⟩=some (.int .i64 Y.id))
    (first | with_reducible exact HS0.out | with_reducible exact HS1.out)
    (first
    | (go_at_call 190;(with_reducible refine (HPA.out _).mono ?_);rintro e w3 ⟨rfl,rfl⟩)
    | (go_at_call 189;(with_reducible refine (HBE.out _).mono ?_);rintro e w3 ⟨rfl,hb3⟩;obtain ⟨hs3,hr3⟩:=HSC.out _ hb3;have HS1:=Lh hs3;have HR3:=Lh hr3;clear hb3 hs3 hr3))
   have HSU:=Lh (siftdown_any q m cap i y w3 HR3.out.row HR3.out.len hilt (by omega))
   go_wp2_with fail
   refine HSU.out.mono ?_
   rintro e w4 ⟨rfl,hr4⟩
   have HF:=Lh (HFI.out _ HCU.out w4 ⟨hr4.row,hr4.len,HR3.out.bel.trans hr4.bel⟩)
   clear hr4
   go_wp2
   go_ret
   exact HF.out
theorem Dl.off {W:World} {B lo n c:Nat} {A:Option Addr} {l:List Du} (h:Dl W B (.slice A n c) l) (hA:Nw lo A) {p:Addr} (hp:p.block<lo) (v:Value):Dl (W.setCell p v) B (.slice A n c) l:=by
 obtain ⟨A',c',e,hl,hm,hr⟩:=h
 injection e with e1 e2 e3
 subst e1;subst e3
 refine ⟨A,c,by rw [e2],hl,hm,hr.1,fun h0=>?_⟩
 obtain ⟨b,o,e,hb,hc⟩:=hr.2 h0
 have hlo:=hA _ e
 exact ⟨b,o,e,hb,fun j u hu=>(World.cell?_setCell_other W _ _ v (fun e'=>by have e2:=congrArg Addr.block e';simp at e2 hlo;omega)).trans (hc j u hu)⟩
def DlX (w:World) (l:List Du) (X:Du) (x:Int) (e:Ending) (w' : World):Prop:=∃ A c,e=.returned (.tuple #[.slice A l.length c,X.v,.int .i64 x])∧Nw w.heap.size A∧Dl w' w'.heap.size (.slice A l.length c) l∧Below w.heap.size w w'
abbrev D2F (W:World) (p:Nat) (d:Du):Prop:=W.cell? ⟨p,0,none⟩=some (.int .i64 d.dl)∧W.cell? ⟨p,1,none⟩=some (.int .i64 d.id)∧W.frozen? ⟨p,0,none⟩=false∧W.frozen? ⟨p,1,none⟩=false∧p<W.heap.size
end Go.Proofs.YtdobenkkkkaipaaGreat
