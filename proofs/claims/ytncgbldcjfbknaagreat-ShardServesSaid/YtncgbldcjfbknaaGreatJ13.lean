/- What is proved here: due.Validate and slices.Clone of deadlines by contracts; due.siftUp by a contract; due.siftDown by a contract; due.pushError and due.Push by contracts; due.Push by a contract. -/
import Derived.Test.YtncgbldcjfbknaaGreatJ12
import Derived.BigRegion
import Derived.Deep.CutRange
import Derived.BigFrame
namespace Go.Proofs.YtncgbldcjfbknaaGreat
open Go.RowKit
set_option linter.unusedVariables false
set_option maxHeartbeats 2000000 in
theorem dvalid_any (A:Option Addr) (n c:Nat) (l:List Du) (w:World) (hv:Dl w w.heap.size (.slice A n c) l) :
  Calls Tryz.prog 150 #[.slice A n c] w fun e w'=>e=.returned (.int .i64 (vaF l))∧Below w.heap.size w w':=by
 obtain ⟨rfl,hm1,hm2⟩:=hv.len
 have HV:=Lh hv
 have HB:=Lh (Below.refl w.heap.size w)
 have H1:=Lh (fun w1 hv=>dcontains_any A l.length c l w1 hv)
 have H2:=Lh (fun w1 hv=>dsame_any A l.length c l w1 hv)
 have H3:=Lh (fun h w1 hv=>dordered_any A l.length c l w1 hv h)
 clear hv hm1 hm2
 by_cases h12:12<l.length
 ·have HR:=Lh (vaF_2 h12)
  have h12' : (12:Int)<(l.length:Int):=by omega
  go_enter Tryz.func150,Tryz.ntmps150
  go_wp2
  go_ret
  exact ⟨by rw [HR.out];rfl,HB.out⟩
 ·have h12' : ¬(12:Int)<(l.length:Int):=by omega
  have H3:=Lh (H3.out (by omega))
  have HL:=Lh (show l.length≤12 by omega)
  have HC:=Lh (fun a b d=>And.intro (vaF_1 (h:=l) HL.out) (And.intro (fun x=>vaF_10 (h:=l) HL.out x a) (And.intro (fun x y=>vaF_11 (h:=l) HL.out x y b) (fun x y=>vaF_0 (h:=l) HL.out x y d))))
  cases hs:snD l with
  | false=>
   have HR:=Lh (vaF_1 (h:=l) HL.out hs)
   rw [hs] at H1
   go_enter Tryz.func150,Tryz.ntmps150
   go_wp2_with fail
   refine (H1.out _ HV.out).mono ?_
   rintro e w1 ⟨rfl,hb⟩
   have HB1:=Lh hb
   clear hb
   go_wp2
   go_ret
   exact ⟨by rw [HR.out];rfl,HB1.out⟩
  | true=>
   rw [hs] at H1
   cases hd:dpD l with
   | true=>
    have HR:=Lh (vaF_10 (h:=l) HL.out hs hd)
    rw [hd] at H2
    go_enter Tryz.func150,Tryz.ntmps150
    go_wp2_with fail
    refine (H1.out _ HV.out).mono ?_
    rintro e w1 ⟨rfl,hb⟩
    have HB1:=Lh hb
    clear hb
    go_wp2_with fail
    refine (H2.out _ (HV.out.up HB1.out)).mono ?_
    rintro e w2 ⟨rfl,hb⟩
    have HB2:=Lh (HB1.out.trans (hb.mono HB1.out.size))
    clear hb
    go_wp2
    go_ret
    exact ⟨by rw [HR.out];rfl,HB2.out⟩
   | false=>
    rw [hd] at H2
    cases ho:hpD l with
    | false=>
     have HR:=Lh (vaF_11 (h:=l) HL.out hs hd ho)
     rw [ho] at H3
     go_enter Tryz.func150,Tryz.ntmps150
     go_wp2_with fail
     refine (H1.out _ HV.out).mono ?_
     rintro e w1 ⟨rfl,hb⟩
     have HB1:=Lh hb
     clear hb
     go_wp2_with fail
     refine (H2.out _ (HV.out.up HB1.out)).mono ?_
     rintro e w2 ⟨rfl,hb⟩
     have HB2:=Lh (HB1.out.trans (hb.mono HB1.out.size))
     clear hb
     go_wp2_with fail
     refine (H3.out _ (HV.out.up HB2.out)).mono ?_
     rintro e w3 ⟨rfl,hb⟩
     have HB3:=Lh (HB2.out.trans (hb.mono HB2.out.size))
     clear hb
     go_wp2
     go_ret
     exact ⟨by rw [HR.out];rfl,HB3.out⟩
    | true=>
     have HR:=Lh (vaF_0 (h:=l) HL.out hs hd ho)
     rw [ho] at H3
     go_enter Tryz.func150,Tryz.ntmps150
     go_wp2_with fail
     refine (H1.out _ HV.out).mono ?_
     rintro e w1 ⟨rfl,hb⟩
     have HB1:=Lh hb
     clear hb
     go_wp2_with fail
     refine (H2.out _ (HV.out.up HB1.out)).mono ?_
     rintro e w2 ⟨rfl,hb⟩
     have HB2:=Lh (HB1.out.trans (hb.mono HB1.out.size))
     clear hb
     go_wp2_with fail
     refine (H3.out _ (HV.out.up HB2.out)).mono ?_
     rintro e w3 ⟨rfl,hb⟩
     have HB3:=Lh (HB2.out.trans (hb.mono HB2.out.size))
     clear hb
     go_wp2
     go_ret
     exact ⟨by rw [HR.out];rfl,HB3.out⟩
theorem info_due:(Tryz.prog.info? 127).map (fun i=>(i.zero,i.size,i.bytes))=some (some (.agg #[.int .i64 0,.int .i64 0]),2,16):=by kernel_rfl
def DClP (w:World) (l:List Du) (e:Ending) (w' : World):Prop:=∃ v,e=.returned v∧w'.ownsRow w.heap.size 127 2 v l.length (dcs l)∧Below w.heap.size w w'
theorem dclone_end {w w1:World} {l:List Du} {v1:Value} {o:Obj} (hown:w1.ownsRow w.heap.size 127 2 v1 (0+l.length) ([]++dcs l)) (hg:(w.alloc o).grownBy w1 (Value.ownBlock (.slice (some ⟨w.heap.size,0,none⟩) 0 0))):DClP w l (.returned v1) w1:=by
 rw [Nat.zero_add,List.nil_append] at hown
 exact ⟨v1,rfl,hown,(((Below.refl _ _).alloc (Nat.le_refl _) o)).grown hg (by simp) (fun k hk=>by simp [Value.ownBlock] at hk;omega)⟩
set_option maxHeartbeats 2000000 in
theorem dclone_any (A:Option Addr) (n c:Nat) (l:List Du) (w:World) (hv:Dl w w.heap.size (.slice A n c) l) (h2:n≤1000) :
  Calls Tryz.prog 106 #[.slice A n c] w (DClP w l):=by
 obtain ⟨rfl,hm1,hm2⟩:=hv.len
 obtain ⟨i0,hi0,hz0⟩:=Option.map_eq_some_iff.1 info_due
 simp only [Prod.mk.injEq] at hz0
 have HI:=Lh hi0
 have HZ:=Lh hz0
 have HV:=Lh hv
 have heq:∀ W,(binOp .eql 29 (.slice A l.length c) (.slice none 0 0)).run Tryz.prog W=.ok (.bool A.isNone) W:=fun W=>Lib.run_eql_slice_nil W _ _ _ _ _ _ _ Tryz.underlying29
 have HRD:=Lh hv.rd
 clear hv hi0 hz0
 cases A with
 | none=>
  have hl:l=[]:=by
   cases l with
   | nil=>rfl
   | cons d l=>obtain ⟨b,o,e,_⟩:=HRD.out.2 (by simp);cases e
  subst hl
  have HP:=Lh (show DClP w [] (.returned (.slice none 0 0)) w from ⟨_,rfl,World.ownsRow_nil w _ _ _,Below.refl _ _⟩)
  simp only [List.length_nil,Option.isNone_none] at heq ⊢
  go_enter Tryz.func106,Tryz.ntmps106
  go_wp2
  go_ret
  exact HP.out
 | some a=>
  simp only [Option.isNone_some] at heq
  go_enter Tryz.func106,Tryz.ntmps106
  go_wp2_with (at_builtin;refine wpList_append_rd _ rfl (.tmp 5) (.tmp 6) 29 rfl w.heap.size 127 i0 _ 2 16 Tryz.underlying29 HI.out HZ.out.1 HZ.out.2.1 HZ.out.2.2 rfl (by omega) (.slice (some ⟨w.heap.size,0,none⟩) 0 0) 0 [] rfl (World.ownsRow_made w #[] 0 (Nat.le_refl _) (Nat.zero_le _) rfl) w.heap.size (some a) l.length c (dcs l) rfl (HV.out.alloc (Nat.le_refl _) _).rd (dcs_one l) (by unfold maxLen;omega) (by omega) (by simp) ?_;intro v1 w1 hown1 hg1 hat1)
  have HP:=Lh (dclone_end hown1 hg1)
  clear hown1 hg1 hat1
  go_wp2
  go_ret
  exact HP.out
structure RwAt (w:World) (q n:Nat) (h:List Du) (W:World):Prop where
 row:DRow W q n (ge h)
 len:h.length=n
 bel:Below q w W
section
variable {w W W' : World} {q n:Nat} {h:List Du}
theorem RwAt.below (r:RwAt w q n h W) (hb:Below W.heap.size W W'):RwAt w q n h W':=⟨r.row.below hb r.row.1,r.len,r.bel.trans (hb.mono (Nat.le_of_lt r.row.1))⟩
theorem RwAt.drew (r:RwAt w q n h W):RwAt w q n h W.drew:=⟨r.row.drew,r.len,r.bel.drew⟩
theorem RwAt.drewN (r:RwAt w q n h W) (k:Nat):RwAt w q n h (W.drewN k):=⟨r.row,r.len,⟨r.bel.os,r.bel.tape,r.bel.output,r.bel.size,r.bel.block⟩⟩
theorem RwAt.swap (r:RwAt w q n h W) {i k:Nat} (hi:i<n) (hk:k<n):RwAt w q n (swp h i k) ((((W.setCell ⟨q,i*2,none⟩ (.int .i64 (ge h k).dl)).setCell ⟨q,i*2+1,none⟩ (.int .i64 (ge h k).id)).setCell ⟨q,k*2,none⟩ (.int .i64 (ge h i).dl)).setCell ⟨q,k*2+1,none⟩ (.int .i64 (ge h i).id)):=by
 refine ⟨((r.row.put hi (ge h k)).put hk (ge h i)).congr fun t ht=>?_,by rw [swp_len];exact r.len,(((r.bel.setCell (p:=⟨q,i*2,none⟩) (Nat.le_refl _) _).setCell (p:=⟨q,i*2+1,none⟩) (Nat.le_refl _) _).setCell (p:=⟨q,k*2,none⟩) (Nat.le_refl _) _).setCell (p:=⟨q,k*2+1,none⟩) (Nat.le_refl _) _⟩
 rw [ge_swp (by rw [r.len];exact hi) (by rw [r.len];exact hk)]
end
set_option maxHeartbeats 2000000 in
set_option maxRecDepth 20000 in
theorem siftup_any (q n cap i:Nat) (h:List Du) (w:World) (hr:DRow w q n (ge h)) (hn:h.length=n) (hi:i<n) (h100:n≤100) :
  Calls Tryz.prog 153 #[.slice (some ⟨q,0,none⟩) n cap,.int .i64 i] w fun e w'=>e=.returned (.tuple #[])∧RwAt w q n (upF h i) w':=by
 have H:=Lh (RwAt.mk hr hn (Below.refl q w))
 have HP:=Lh (fun (j:Nat) (hj:j<n) w=>parent_any j (by omega) w)
 clear hr hn
 go_enter Tryz.func153,Tryz.ntmps153
 go_wp2_with fail
 refine (HP.out i hi _).mono ?_
 rintro e w1 ⟨rfl,rfl⟩
 go_wp2
 go_loopw [1,4] (fun iv pv wr=>∃ (j:Nat) (g:List Du),iv=.int .i64 j∧pv=.int .i64 (((j - 1) / 2:Nat):Int)∧j≤i∧upF g j=upF h i∧RwAt w q n g wr) (fun iv _ _=>(intOf iv).toNat)
 case atStart=>exact ⟨i,h,rfl,rfl,Nat.le_refl _,rfl,H.out⟩
 case round=>
  obtain ⟨j,g,rfl,rfl,hji,hu,hra⟩:=hrel
  have HR:=Lh hra
  have HU:=Lh hu
  have hjn:j<n:=by omega
  obtain ⟨p,hp⟩:∃ p,p=(j - 1) / 2:=⟨_,rfl⟩
  have HPP:=Lh hp
  have hpn:p<n:=by omega
  rw [←hp]
  have HB:=Lh (fun w=>before_any (ge g j) (ge g p) w)
  have HSW:=Lh (fun w1 (hb1:Below wr.drew.heap.size wr.drew w1)=>hra.drew.below hb1)
  obtain ⟨c0,c1,f0,f1,hq⟩:=hra.row.at_ hjn
  obtain ⟨d0,d1,e0,e1,-⟩:=hra.row.at_ hpn
  have hjn' : (j:Int)<(n:Int):=by omega
  have hpn' : (p:Int)<(n:Int):=by omega
  clear hra hu hp
  cases hb:bef (ge g j) (ge g p) with
  | true=>
   rw [hb] at HB
   have HBB:=Lh hb
   have HNE:=Lh (show ¬j=p∧¬p=j by
    have:j≠p:=fun e=>by rw [e,bef_irr] at hb;cases hb
    omega)
   clear hb
   obtain ⟨X,hX⟩:∃ X,ge g j=X:=⟨_,rfl⟩
   obtain ⟨Y,hY⟩:∃ Y,ge g p=Y:=⟨_,rfl⟩
   rw [hX] at c0 c1 HB
   rw [hY] at d0 d1 HB
   have HX:=Lh hX
   have HY:=Lh hY
   clear hX hY
   go_wp2
   go_region_with ((go_at_call 196;refine (HB.out _).mono ?_;rintro e w1 ⟨rfl,hb1⟩;have HR1:=Lh (HSW.out _ hb1);clear hb1))
   all_goals
    clear c0 c1 d0 d1 f0 f1 e0 e1 hq
    obtain ⟨c0,c1,f0,f1,hq⟩:=HR1.out.row.at_ hjn
    obtain ⟨d0,d1,e0,e1,-⟩:=HR1.out.row.at_ hpn
    rw [HX.out] at c0 c1
    rw [HY.out] at d0 d1
    go_wp2
    obtain ⟨n1,n2⟩:=HNE.out
    go_region
    clear c0 c1 d0 d1 f0 f1 e0 e1 hq n1 n2
    have HR2:=Lh ((HR1.out.swap hjn hpn).drew)
    rw [HX.out,HY.out] at HR2
    generalize ((((w1.setCell ⟨q,j*2,none⟩ (.int .i64 Y.dl)).setCell ⟨q,j*2+1,none⟩ (.int .i64 Y.id)).setCell ⟨q,p*2,none⟩ (.int .i64 X.dl)).setCell ⟨q,p*2+1,none⟩ (.int .i64 X.id)).drew=w2 at*
    have HUU:=Lh (show upF (swp g j p) p=upF h i by
     have hb:=HBB.out
     rw [HPP.out] at hb ⊢
     rw [←HU.out,upF_step (by have:=HNE.out;have:=HPP.out;omega) hb])
    have HLT:=Lh (show p<j by have:=HNE.out;have:=HPP.out;omega)
    go_wp2_with fail
    refine (HP.out p hpn _).mono ?_
    rintro e w3 ⟨rfl,rfl⟩
    go_wp2
    go_roundw
    case rel=>exact ⟨p,swp g j p,rfl,rfl,by have:=HLT.out;omega,HUU.out,HR2.out⟩
    case measure=>have:=HLT.out;simp [intOf];omega
  | false=>
   rw [hb] at HB
   have HBB:=Lh hb
   have HUU:=Lh (show upF h i=g by
    rw [HPP.out] at hb
    rw [←HU.out,upF_stop hb])
   clear hb
   obtain ⟨X,hX⟩:∃ X,ge g j=X:=⟨_,rfl⟩
   obtain ⟨Y,hY⟩:∃ Y,ge g p=Y:=⟨_,rfl⟩
   rw [hX] at c0 c1 HB
   rw [hY] at d0 d1 HB
   clear hX hY
   go_wp2
   go_region_with ((go_at_call 196;refine (HB.out _).mono ?_;rintro e w1 ⟨rfl,hb1⟩;have HR1:=Lh (HSW.out _ hb1);clear hb1))
   all_goals
    go_wp2
    go_end0
    exact ⟨rfl,by rw [HUU.out];exact HR1.out⟩
set_option maxHeartbeats 2000000 in
set_option maxRecDepth 20000 in
theorem siftdown_any (q n cap i:Nat) (h:List Du) (w:World) (hr:DRow w q n (ge h)) (hn:h.length=n) (hi:i<n) (h100:n≤100) :
  Calls Tryz.prog 215 #[.slice (some ⟨q,0,none⟩) n cap,.int .i64 i] w fun e w'=>e=.returned (.tuple #[])∧RwAt w q n (dnF h i) w':=by
 have H:=Lh (RwAt.mk hr hn (Below.refl q w))
 have h100' : (n:Int)≤100:=by omega
 have hi' : (i:Int)≤100:=by omega
 clear hr hn
 go_enter Tryz.func215,Tryz.ntmps215
 go_wp2
 go_loopw [1,4] (fun iv cv wr=>∃ (j:Nat) (g:List Du),iv=.int .i64 j∧cv=.int .i64 (2*(j:Int)+1)∧j<n∧dnF g j=dnF h i∧RwAt w q n g wr) (fun iv _ _=>n - (intOf iv).toNat)
 case atStart=>exact ⟨i,h,rfl,by go_num,hi,rfl,H.out⟩
 case round=>
  obtain ⟨j,g,rfl,rfl,hjn,hu,hra⟩:=hrel
  have HR:=Lh hra
  have HU:=Lh hu
  clear hra hu
  by_cases hl:2*j+1<n
  ·have hl' : 2*(j:Int)+1<(n:Int):=by omega
   obtain ⟨kk,hkk⟩:∃ kk,kk=decide (2*j+2<n∧bef (ge g (2*j+2)) (ge g (2*j+1))=true):=⟨_,rfl⟩
   go_wp2
   go_cut [31] (fun s31 wx=>s31=.bool kk∧RwAt w q n g wx)
   case first=>
    by_cases h2:2*j+2<n
    ·have HB:=Lh (fun w=>before_any (ge g (2*j+2)) (ge g (2*j+1)) w)
     have HKK:=Lh (show kk=bef (ge g (2*j+2)) (ge g (2*j+1)) by rw [hkk];simp [h2])
     have HSW:=Lh (fun w1 (hb1:Below wr.drew.heap.size wr.drew w1)=>HR.out.drew.below hb1)
     obtain ⟨c0,c1,f0,f1,hq⟩:=HR.out.row.at_ h2
     obtain ⟨d0,d1,e0,e1,-⟩:=HR.out.row.at_ hl
     generalize ge g (2*j+2)=X at*
     generalize ge g (2*j+1)=Y at*
     rw [←HKK.out] at HB
     have HSC:=Lh (fun w1 (hb1:Below wr.drew.heap.size wr.drew w1)=>show w1.cell? ⟨q,(2*j+2)*2,none⟩=some (.int .i64 X.dl)∧w1.cell? ⟨q,(2*j+2)*2+1,none⟩=some (.int .i64 X.id)∧w1.cell? ⟨q,(2*j+1)*2,none⟩=some (.int .i64 Y.dl)∧w1.cell? ⟨q,(2*j+1)*2+1,none⟩=some (.int .i64 Y.id) from ⟨(hb1.cell (p:=⟨q,(2*j+2)*2,none⟩) hq).trans c0,(hb1.cell (p:=⟨q,(2*j+2)*2+1,none⟩) hq).trans c1,(hb1.cell (p:=⟨q,(2*j+1)*2,none⟩) hq).trans d0,(hb1.cell (p:=⟨q,(2*j+1)*2+1,none⟩) hq).trans d1⟩)
     clear hkk f0 f1 e0 e1
     have h2' : 2*(j:Int)+1+1<(n:Int):=by omega
     have h2d:decide (2*(j:Int)+1+1<(n:Int))=true:=by simpa using h2'
     have hw1:IntKind.i64.wrap (2*(j:Int)+1+1)=2*(j:Int)+1+1:=IntWalk.i64_in _ (by omega)
     have hn1:(0:Int)≤2*(j:Int)+1+1:=by omega
     have ht1:(2*(j:Int)+1+1).toNat=2*j+2:=by omega
     have hn0:(0:Int)≤2*(j:Int)+1:=by omega
     have ht0:(2*(j:Int)+1).toNat=2*j+1:=by omega
     have HSA:=Lh (show wr.drew.cell? ⟨q,(2*j+2)*2,none⟩=some (.int .i64 X.dl)∧wr.drew.cell? ⟨q,(2*j+2)*2+1,none⟩=some (.int .i64 X.id)∧wr.drew.cell? ⟨q,(2*j+1)*2,none⟩=some (.int .i64 Y.dl)∧wr.drew.cell? ⟨q,(2*j+1)*2+1,none⟩=some (.int .i64 Y.id) from ⟨c0,c1,d0,d1⟩)
     go_region_held3 (fun W=>W.cell? ⟨q,(2*j+2)*2,none⟩=some (.int .i64 X.dl)∧W.cell? ⟨q,(2*j+2)*2+1,none⟩=some (.int .i64 X.id)∧W.cell? ⟨q,(2*j+1)*2,none⟩=some (.int .i64 Y.dl)∧W.cell? ⟨q,(2*j+1)*2+1,none⟩=some (.int .i64 Y.id))
      (first | with_reducible exact HSA.out | with_reducible exact HSB.out)
      ((go_at_call 196;(with_reducible refine (HB.out _).mono ?_);rintro e w1 ⟨rfl,hb1⟩;have HR1:=Lh (HSW.out _ hb1);have HSB:=Lh (HSC.out _ hb1);clear hb1))
     go_wp2_with fail
     go_meet
     exact ⟨rfl,HR1.out⟩
    ·have HKK:=Lh (show kk=false by rw [hkk];simp [h2])
     have h2d:decide (2*(j:Int)+1+1<(n:Int))=false:=by simp;omega
     clear hkk h2
     have hw1:IntKind.i64.wrap (2*(j:Int)+1+1)=2*(j:Int)+1+1:=IntWalk.i64_in _ (by omega)
     go_quiet (fail)
     go_wp2_with fail
     go_meet
     exact ⟨by rw [HKK.out],HR.out.drewN _⟩
   case rest=>
    obtain ⟨rfl,hrc⟩:=hcut
    have HRC:=Lh hrc
    have hlen:g.length=n:=hrc.len
    clear hrc
    cases kk with
    | true=>
     have hk2:=of_decide_eq_true hkk.symm
     have HCH:=Lh (chF_two (h:=g) (i:=j) (by rw [hlen];exact hk2.1) hk2.2)
     have hcl:=hk2.1
     clear hkk hk2
     have HCL:=Lh (show 2*j+2<n by omega)
     have hjn' : (j:Int)<(n:Int):=by omega
     have HB:=Lh (fun w=>before_any (ge g (2*j+2)) (ge g j) w)
     have HSW:=Lh (fun w1 (hb1:Below wc.drew.heap.size wc.drew w1)=>HRC.out.drew.below hb1)
     obtain ⟨c0,c1,f0,f1,hq⟩:=HRC.out.row.at_ HCL.out
     obtain ⟨d0,d1,e0,e1,-⟩:=HRC.out.row.at_ hjn
     obtain ⟨X,hX⟩:∃ X,ge g (2*j+2)=X:=⟨_,rfl⟩
     obtain ⟨Y,hY⟩:∃ Y,ge g j=Y:=⟨_,rfl⟩
     rw [hX,hY] at HB
     rw [hX] at c0 c1
     rw [hY] at d0 d1
     have HX:=Lh hX
     have HY:=Lh hY
     cases hb:bef (ge g (2*j+2)) (ge g j) with
     | true=>
      have HBB:=Lh hb
      rw [hX,hY] at hb
      rw [hb] at HB
      clear hb
      go_wp2
      have HSA:=Lh (show wc.drew.cell? ⟨q,(2*j+2)*2,none⟩=some (.int .i64 X.dl)∧wc.drew.cell? ⟨q,(2*j+2)*2+1,none⟩=some (.int .i64 X.id)∧wc.drew.cell? ⟨q,j*2,none⟩=some (.int .i64 Y.dl)∧wc.drew.cell? ⟨q,j*2+1,none⟩=some (.int .i64 Y.id) from ⟨c0,c1,d0,d1⟩)
      have HSC:=Lh (fun w1 (hb1:Below wc.drew.heap.size wc.drew w1)=>show w1.cell? ⟨q,(2*j+2)*2,none⟩=some (.int .i64 X.dl)∧w1.cell? ⟨q,(2*j+2)*2+1,none⟩=some (.int .i64 X.id)∧w1.cell? ⟨q,j*2,none⟩=some (.int .i64 Y.dl)∧w1.cell? ⟨q,j*2+1,none⟩=some (.int .i64 Y.id) from ⟨(hb1.cell (p:=⟨q,(2*j+2)*2,none⟩) hq).trans c0,(hb1.cell (p:=⟨q,(2*j+2)*2+1,none⟩) hq).trans c1,(hb1.cell (p:=⟨q,j*2,none⟩) hq).trans d0,(hb1.cell (p:=⟨q,j*2+1,none⟩) hq).trans d1⟩)
      clear hX hY f0 f1 e0 e1
      have hcn:2*(j:Int)+1+1<(n:Int):=by omega
      have hn1:(0:Int)≤2*(j:Int)+1+1:=by omega
      have ht1:(2*(j:Int)+1+1).toNat=2*j+2:=by omega
      go_region_held3 (fun W=>W.cell? ⟨q,(2*j+2)*2,none⟩=some (.int .i64 X.dl)∧W.cell? ⟨q,(2*j+2)*2+1,none⟩=some (.int .i64 X.id)∧W.cell? ⟨q,j*2,none⟩=some (.int .i64 Y.dl)∧W.cell? ⟨q,j*2+1,none⟩=some (.int .i64 Y.id))
       (first | with_reducible exact HSA.out | with_reducible exact HSB.out)
       ((go_at_call 196;(with_reducible refine (HB.out _).mono ?_);rintro e w1 ⟨rfl,hb1⟩;have HR1:=Lh (HSW.out _ hb1);have HSB:=Lh (HSC.out _ hb1);clear hb1))
      clear c0 c1 d0 d1 hq
      obtain ⟨c0,c1,f0,f1,hq⟩:=HR1.out.row.at_ HCL.out
      obtain ⟨d0,d1,e0,e1,-⟩:=HR1.out.row.at_ hjn
      rw [HX.out] at c0 c1
      rw [HY.out] at d0 d1
      have n1:¬(j=2*j+2):=by omega
      have n2:¬(2*j+2=j):=by omega
      go_wp2
      go_region
      clear c0 c1 d0 d1 f0 f1 e0 e1 hq n1 n2
      have HR2:=Lh ((HR1.out.swap hjn HCL.out).drew)
      rw [HX.out,HY.out] at HR2
      generalize ((((w1.setCell ⟨q,j*2,none⟩ (.int .i64 X.dl)).setCell ⟨q,j*2+1,none⟩ (.int .i64 X.id)).setCell ⟨q,(2*j+2)*2,none⟩ (.int .i64 Y.dl)).setCell ⟨q,(2*j+2)*2+1,none⟩ (.int .i64 Y.id)).drew=w2 at*
      have HUU:=Lh (show dnF (swp g j (2*j+2)) (2*j+2)=dnF h i by
       rw [←HU.out,dnF_step (by rw [hlen];exact hl) HCH.out HBB.out])
      go_wp2
      go_roundw
      case rel=>exact ⟨2*j+2,swp g j (2*j+2),by go_num,by go_num,HCL.out,HUU.out,HR2.out⟩
      case measure=>have:=HCL.out;simp [intOf];omega
     | false=>
      have HUU:=Lh (show dnF h i=g by rw [←HU.out,dnF_stop HCH.out hb])
      rw [hX,hY] at hb
      rw [hb] at HB
      clear hb
      go_wp2
      have HSA:=Lh (show wc.drew.cell? ⟨q,(2*j+2)*2,none⟩=some (.int .i64 X.dl)∧wc.drew.cell? ⟨q,(2*j+2)*2+1,none⟩=some (.int .i64 X.id)∧wc.drew.cell? ⟨q,j*2,none⟩=some (.int .i64 Y.dl)∧wc.drew.cell? ⟨q,j*2+1,none⟩=some (.int .i64 Y.id) from ⟨c0,c1,d0,d1⟩)
      have HSC:=Lh (fun w1 (hb1:Below wc.drew.heap.size wc.drew w1)=>show w1.cell? ⟨q,(2*j+2)*2,none⟩=some (.int .i64 X.dl)∧w1.cell? ⟨q,(2*j+2)*2+1,none⟩=some (.int .i64 X.id)∧w1.cell? ⟨q,j*2,none⟩=some (.int .i64 Y.dl)∧w1.cell? ⟨q,j*2+1,none⟩=some (.int .i64 Y.id) from ⟨(hb1.cell (p:=⟨q,(2*j+2)*2,none⟩) hq).trans c0,(hb1.cell (p:=⟨q,(2*j+2)*2+1,none⟩) hq).trans c1,(hb1.cell (p:=⟨q,j*2,none⟩) hq).trans d0,(hb1.cell (p:=⟨q,j*2+1,none⟩) hq).trans d1⟩)
      clear hX hY f0 f1 e0 e1
      have hcn:2*(j:Int)+1+1<(n:Int):=by omega
      have hn1:(0:Int)≤2*(j:Int)+1+1:=by omega
      have ht1:(2*(j:Int)+1+1).toNat=2*j+2:=by omega
      go_region_held3 (fun W=>W.cell? ⟨q,(2*j+2)*2,none⟩=some (.int .i64 X.dl)∧W.cell? ⟨q,(2*j+2)*2+1,none⟩=some (.int .i64 X.id)∧W.cell? ⟨q,j*2,none⟩=some (.int .i64 Y.dl)∧W.cell? ⟨q,j*2+1,none⟩=some (.int .i64 Y.id))
       (first | with_reducible exact HSA.out | with_reducible exact HSB.out)
       ((go_at_call 196;(with_reducible refine (HB.out _).mono ?_);rintro e w1 ⟨rfl,hb1⟩;have HR1:=Lh (HSW.out _ hb1);have HSB:=Lh (HSC.out _ hb1);clear hb1))
      go_wp2
      refine bodyPost_ret (results_none rfl _ _ _) rfl ?_
      exact ⟨rfl,by rw [HUU.out];exact HR1.out⟩
    | false=>
     have hk2:=of_decide_eq_false hkk.symm
     have HCH:=Lh (chF_one (h:=g) (i:=j) (by rw [hlen];exact hk2))
     clear hkk hk2
     have HCL:=Lh (show 2*j+1<n by omega)
     have hjn' : (j:Int)<(n:Int):=by omega
     have HB:=Lh (fun w=>before_any (ge g (2*j+1)) (ge g j) w)
     have HSW:=Lh (fun w1 (hb1:Below wc.drew.heap.size wc.drew w1)=>HRC.out.drew.below hb1)
     obtain ⟨c0,c1,f0,f1,hq⟩:=HRC.out.row.at_ HCL.out
     obtain ⟨d0,d1,e0,e1,-⟩:=HRC.out.row.at_ hjn
     obtain ⟨X,hX⟩:∃ X,ge g (2*j+1)=X:=⟨_,rfl⟩
     obtain ⟨Y,hY⟩:∃ Y,ge g j=Y:=⟨_,rfl⟩
     rw [hX,hY] at HB
     rw [hX] at c0 c1
     rw [hY] at d0 d1
     have HX:=Lh hX
     have HY:=Lh hY
     cases hb:bef (ge g (2*j+1)) (ge g j) with
     | true=>
      have HBB:=Lh hb
      rw [hX,hY] at hb
      rw [hb] at HB
      clear hb
      go_wp2
      have HSA:=Lh (show wc.drew.cell? ⟨q,(2*j+1)*2,none⟩=some (.int .i64 X.dl)∧wc.drew.cell? ⟨q,(2*j+1)*2+1,none⟩=some (.int .i64 X.id)∧wc.drew.cell? ⟨q,j*2,none⟩=some (.int .i64 Y.dl)∧wc.drew.cell? ⟨q,j*2+1,none⟩=some (.int .i64 Y.id) from ⟨c0,c1,d0,d1⟩)
      have HSC:=Lh (fun w1 (hb1:Below wc.drew.heap.size wc.drew w1)=>show w1.cell? ⟨q,(2*j+1)*2,none⟩=some (.int .i64 X.dl)∧w1.cell? ⟨q,(2*j+1)*2+1,none⟩=some (.int .i64 X.id)∧w1.cell? ⟨q,j*2,none⟩=some (.int .i64 Y.dl)∧w1.cell? ⟨q,j*2+1,none⟩=some (.int .i64 Y.id) from ⟨(hb1.cell (p:=⟨q,(2*j+1)*2,none⟩) hq).trans c0,(hb1.cell (p:=⟨q,(2*j+1)*2+1,none⟩) hq).trans c1,(hb1.cell (p:=⟨q,j*2,none⟩) hq).trans d0,(hb1.cell (p:=⟨q,j*2+1,none⟩) hq).trans d1⟩)
      clear hX hY f0 f1 e0 e1
      have hn0:(0:Int)≤2*(j:Int)+1:=by omega
      have ht0:(2*(j:Int)+1).toNat=2*j+1:=by omega
      go_region_held3 (fun W=>W.cell? ⟨q,(2*j+1)*2,none⟩=some (.int .i64 X.dl)∧W.cell? ⟨q,(2*j+1)*2+1,none⟩=some (.int .i64 X.id)∧W.cell? ⟨q,j*2,none⟩=some (.int .i64 Y.dl)∧W.cell? ⟨q,j*2+1,none⟩=some (.int .i64 Y.id))
       (first | with_reducible exact HSA.out | with_reducible exact HSB.out)
       ((go_at_call 196;(with_reducible refine (HB.out _).mono ?_);rintro e w1 ⟨rfl,hb1⟩;have HR1:=Lh (HSW.out _ hb1);have HSB:=Lh (HSC.out _ hb1);clear hb1))
      clear c0 c1 d0 d1 hq
      obtain ⟨c0,c1,f0,f1,hq⟩:=HR1.out.row.at_ HCL.out
      obtain ⟨d0,d1,e0,e1,-⟩:=HR1.out.row.at_ hjn
      rw [HX.out] at c0 c1
      rw [HY.out] at d0 d1
      have n1:¬(j=2*j+1):=by omega
      have n2:¬(2*j+1=j):=by omega
      go_wp2
      go_region
      clear c0 c1 d0 d1 f0 f1 e0 e1 hq n1 n2
      have HR2:=Lh ((HR1.out.swap hjn HCL.out).drew)
      rw [HX.out,HY.out] at HR2
      generalize ((((w1.setCell ⟨q,j*2,none⟩ (.int .i64 X.dl)).setCell ⟨q,j*2+1,none⟩ (.int .i64 X.id)).setCell ⟨q,(2*j+1)*2,none⟩ (.int .i64 Y.dl)).setCell ⟨q,(2*j+1)*2+1,none⟩ (.int .i64 Y.id)).drew=w2 at*
      have HUU:=Lh (show dnF (swp g j (2*j+1)) (2*j+1)=dnF h i by
       rw [←HU.out,dnF_step (by rw [hlen];exact hl) HCH.out HBB.out])
      go_wp2
      go_roundw
      case rel=>exact ⟨2*j+1,swp g j (2*j+1),by go_num,by go_num,HCL.out,HUU.out,HR2.out⟩
      case measure=>have:=HCL.out;simp [intOf];omega
     | false=>
      have HUU:=Lh (show dnF h i=g by rw [←HU.out,dnF_stop HCH.out hb])
      rw [hX,hY] at hb
      rw [hb] at HB
      clear hb
      go_wp2
      have HSA:=Lh (show wc.drew.cell? ⟨q,(2*j+1)*2,none⟩=some (.int .i64 X.dl)∧wc.drew.cell? ⟨q,(2*j+1)*2+1,none⟩=some (.int .i64 X.id)∧wc.drew.cell? ⟨q,j*2,none⟩=some (.int .i64 Y.dl)∧wc.drew.cell? ⟨q,j*2+1,none⟩=some (.int .i64 Y.id) from ⟨c0,c1,d0,d1⟩)
      have HSC:=Lh (fun w1 (hb1:Below wc.drew.heap.size wc.drew w1)=>show w1.cell? ⟨q,(2*j+1)*2,none⟩=some (.int .i64 X.dl)∧w1.cell? ⟨q,(2*j+1)*2+1,none⟩=some (.int .i64 X.id)∧w1.cell? ⟨q,j*2,none⟩=some (.int .i64 Y.dl)∧w1.cell? ⟨q,j*2+1,none⟩=some (.int .i64 Y.id) from ⟨(hb1.cell (p:=⟨q,(2*j+1)*2,none⟩) hq).trans c0,(hb1.cell (p:=⟨q,(2*j+1)*2+1,none⟩) hq).trans c1,(hb1.cell (p:=⟨q,j*2,none⟩) hq).trans d0,(hb1.cell (p:=⟨q,j*2+1,none⟩) hq).trans d1⟩)
      clear hX hY f0 f1 e0 e1
      have hn0:(0:Int)≤2*(j:Int)+1:=by omega
      have ht0:(2*(j:Int)+1).toNat=2*j+1:=by omega
      go_region_held3 (fun W=>W.cell? ⟨q,(2*j+1)*2,none⟩=some (.int .i64 X.dl)∧W.cell? ⟨q,(2*j+1)*2+1,none⟩=some (.int .i64 X.id)∧W.cell? ⟨q,j*2,none⟩=some (.int .i64 Y.dl)∧W.cell? ⟨q,j*2+1,none⟩=some (.int .i64 Y.id))
       (first | with_reducible exact HSA.out | with_reducible exact HSB.out)
       ((go_at_call 196;(with_reducible refine (HB.out _).mono ?_);rintro e w1 ⟨rfl,hb1⟩;have HR1:=Lh (HSW.out _ hb1);have HSB:=Lh (HSC.out _ hb1);clear hb1))
      go_wp2
      refine bodyPost_ret (results_none rfl _ _ _) rfl ?_
      exact ⟨rfl,by rw [HUU.out];exact HR1.out⟩
  ·have HUU:=Lh (show dnF h i=g by rw [←HU.out,dnF_leaf (by rw [HR.out.len];exact hl)])
   have hl' : ¬(2*(j:Int)+1<(n:Int)):=by omega
   go_wp2
   go_end0
   exact ⟨rfl,by rw [HUU.out];exact HR.out⟩
abbrev D2 (W:World) (p:Nat) (d:Du):Prop:=W.cell? ⟨p,0,none⟩=some (.int .i64 d.dl)∧W.cell? ⟨p,1,none⟩=some (.int .i64 d.id)
theorem D2.below {B:Nat} {W W' : World} {p:Nat} {d:Du} (h:D2 W p d) (hb:Below B W W') (hp:p<B):D2 W' p d:=
 ⟨(hb.cell (p:=⟨p,0,none⟩) hp).trans h.1,(hb.cell (p:=⟨p,1,none⟩) hp).trans h.2⟩
theorem D2.start (w:World) (d:Du) (t:TypeId):D2 (w.alloc (.cells #[.int .i64 d.dl,.int .i64 d.id] t)) w.heap.size d:=by
 refine ⟨?_,?_⟩ <;> (rw [World.cell?_alloc_new];rfl)
set_option maxHeartbeats 2000000 in
theorem dpusherr_any (A:Option Addr) (n c:Nat) (l:List Du) (d:Du) (w:World) (hv:Dl w w.heap.size (.slice A n c) l) :
  Calls Tryz.prog 152 #[.slice A n c,d.v] w fun e w'=>e=.returned (.int .i64 (hpuE l d))∧Below w.heap.size w w':=by
 obtain ⟨rfl,hm1,hm2⟩:=hv.len
 have HB:=Lh ((Below.refl w.heap.size w).alloc (Nat.le_refl _) (.cells #[.int .i64 d.dl,.int .i64 d.id] 127))
 have HV0:=Lh ((hv.alloc (Nat.le_refl _) (.cells #[.int .i64 d.dl,.int .i64 d.id] 127)).more (show w.heap.size≤(w.alloc (.cells #[.int .i64 d.dl,.int .i64 d.id] 127)).heap.size by simp))
 have HD0:=Lh (D2.start w d 127)
 have HV:=Lh hv
 have HVA:=Lh (fun w1 hv=>dvalid_any A l.length c l w1 hv)
 have HO:=Lh (fun w1=>isout_any d w1)
 have HF:=Lh (fun w1 hv=>dfind_any A l.length c l d.id w1 hv)
 clear hv hm1 hm2
 by_cases h0:vaF l=0
 ·have hl:=(vaF_zero h0).1
  rw [h0] at HVA
  have hpu:hpuE l d=if snd d=false then 1 else if l.length=12 then 3 else if 0≤ixD l d.id then 10 else 0:=by
   unfold hpuE;rw [if_neg (by simpa using h0)]
  clear h0
  cases hs:snd d with
  | false=>
   have HR:=Lh (show hpuE l d=1 by rw [hpu,if_pos hs])
   rw [hs] at HO
   clear hpu hs
   go_enter Tryz.func152,Tryz.ntmps152
   go_wp2_with fail
   refine (HVA.out _ HV0.out).mono ?_
   rintro e w1 ⟨rfl,hb⟩
   have HB1:=Lh (HB.out.trans (hb.mono HB.out.size))
   obtain ⟨c0,c1⟩:=HD0.out.below hb (by simp)
   clear hb
   go_wp2_with fail
   refine (HO.out _).mono ?_
   rintro e w2 ⟨rfl,hb⟩
   have HB2:=Lh (HB1.out.trans (hb.mono HB1.out.size))
   clear hb c0 c1
   go_wp2
   go_ret
   exact ⟨by rw [HR.out];rfl,HB2.out⟩
  | true=>
   rw [hs] at HO
   by_cases h12:l.length=12
   ·have HR:=Lh (show hpuE l d=3 by rw [hpu,if_neg (by simp [hs]),if_pos h12])
    have h12' : ((l.length:Int)==12)=true:=by simp;omega
    clear hpu hs h12
    go_enter Tryz.func152,Tryz.ntmps152
    go_wp2_with fail
    refine (HVA.out _ HV0.out).mono ?_
    rintro e w1 ⟨rfl,hb⟩
    have HB1:=Lh (HB.out.trans (hb.mono HB.out.size))
    obtain ⟨c0,c1⟩:=HD0.out.below hb (by simp)
    clear hb
    go_wp2_with fail
    refine (HO.out _).mono ?_
    rintro e w2 ⟨rfl,hb⟩
    have HB2:=Lh (HB1.out.trans (hb.mono HB1.out.size))
    clear hb c0 c1
    go_wp2
    go_ret
    exact ⟨by rw [HR.out];rfl,HB2.out⟩
   ·have h12' : ((l.length:Int)==12)=false:=by simp;omega
    have hpu2:hpuE l d=if 0≤ixD l d.id then 10 else 0:=by rw [hpu,if_neg (by simp [hs]),if_neg h12]
    clear hpu hs h12
    obtain ⟨k,hk⟩:∃ k:Bool,k=decide (0≤ixD l d.id):=⟨_,rfl⟩
    have HR:=Lh (show hpuE l d=if k=true then 10 else 0 by rw [hpu2,hk];simp)
    clear hpu2
    generalize ixD l d.id=r at*
    cases k with
    | true=>
     have hr:0≤r:=of_decide_eq_true hk.symm
     clear hk
     go_enter Tryz.func152,Tryz.ntmps152
     go_wp2_with fail
     refine (HVA.out _ HV0.out).mono ?_
     rintro e w1 ⟨rfl,hb⟩
     have HB1:=Lh (HB.out.trans (hb.mono HB.out.size))
     have HD1:=Lh (HD0.out.below hb (by simp))
     obtain ⟨c0,c1⟩:=HD1.out
     clear hb
     have HPL:=Lh (show w.heap.size<w1.heap.size by have:=HB1.out.size;have h2:=World.block_lt_of_cell? w1 ⟨w.heap.size,0,none⟩ c0;exact h2)
     go_wp2_with fail
     refine (HO.out _).mono ?_
     rintro e w2 ⟨rfl,hb⟩
     have HB2:=Lh (HB1.out.trans (hb.mono HB1.out.size))
     clear c0 c1
     obtain ⟨c0,c1⟩:=HD1.out.below hb HPL.out
     clear hb
     go_wp2_with fail
     refine (HF.out _ (HV.out.up HB2.out)).mono ?_
     rintro e w3 ⟨rfl,hb⟩
     have HB3:=Lh (HB2.out.trans (hb.mono HB2.out.size))
     clear hb c0 c1
     go_wp2
     go_ret
     exact ⟨by rw [HR.out];rfl,HB3.out⟩
    | false=>
     have hr:¬0≤r:=of_decide_eq_false hk.symm
     clear hk
     go_enter Tryz.func152,Tryz.ntmps152
     go_wp2_with fail
     refine (HVA.out _ HV0.out).mono ?_
     rintro e w1 ⟨rfl,hb⟩
     have HB1:=Lh (HB.out.trans (hb.mono HB.out.size))
     have HD1:=Lh (HD0.out.below hb (by simp))
     obtain ⟨c0,c1⟩:=HD1.out
     clear hb
     have HPL:=Lh (show w.heap.size<w1.heap.size by have:=HB1.out.size;have h2:=World.block_lt_of_cell? w1 ⟨w.heap.size,0,none⟩ c0;exact h2)
     go_wp2_with fail
     refine (HO.out _).mono ?_
     rintro e w2 ⟨rfl,hb⟩
     have HB2:=Lh (HB1.out.trans (hb.mono HB1.out.size))
     clear c0 c1
     obtain ⟨c0,c1⟩:=HD1.out.below hb HPL.out
     clear hb
     go_wp2_with fail
     refine (HF.out _ (HV.out.up HB2.out)).mono ?_
     rintro e w3 ⟨rfl,hb⟩
     have HB3:=Lh (HB2.out.trans (hb.mono HB2.out.size))
     clear hb c0 c1
     go_wp2
     go_ret
     exact ⟨by rw [HR.out];rfl,HB3.out⟩
 ·have HR:=Lh (show hpuE l d=vaF l by unfold hpuE;rw [if_pos h0])
  have hne:(vaF l != 0)=true:=bne_iff_ne.2 h0
  generalize vaF l=x at*
  clear h0
  go_enter Tryz.func152,Tryz.ntmps152
  go_wp2_with fail
  refine (HVA.out _ HV0.out).mono ?_
  rintro e w1 ⟨rfl,hb⟩
  have HB1:=Lh (HB.out.trans (hb.mono HB.out.size))
  clear hb
  go_wp2
  go_ret
  exact ⟨by rw [HR.out];rfl,HB1.out⟩
def DlE (w:World) (l:List Du) (x:Int) (e:Ending) (w' : World):Prop:=∃ A c,e=.returned (.tuple #[.slice A l.length c,.int .i64 x])∧Nw w.heap.size A∧Dl w' w'.heap.size (.slice A l.length c) l∧Below w.heap.size w w'
theorem push_end {w W w1:World} {h:List Du} {d:Du} {g cap base:Nat} {v:Value} (hB:Below w.heap.size w W) (hv:W.ownsRow base 127 2 v h.length (dcs h)) (hb:w.heap.size≤base)
  (hown:w1.ownsRow base 127 2 (.slice (some ⟨g,0,none⟩) (h.length+1) cap) (h.length+1) (dcs h++d.l)) (hg:W.grownBy w1 v.ownBlock) :
  DRow w1 g (h.length+1) (ge (h++[d]))∧w.heap.size≤g∧h.length+1≤cap∧cap≤maxLen∧Below w.heap.size w w1:=by
 have hown2:w1.ownsRow base 127 2 (.slice (some ⟨g,0,none⟩) (h.length+1) cap) (h.length+1) (dcs (h++[d])):=by
  rw [dcs_app,show dcs [d]=d.l by simp [dcs]];exact hown
 have h1:=hown2.lt g rfl
 have h2:h.length+1≤cap∧cap≤maxLen:=by
  rcases hown2.2 with ⟨e,_⟩ | ⟨g',cap',cur,e,_,_,hl,hm,_⟩
  ·cases e
  ·injection e with _ _ e3
   subst e3
   exact ⟨hl,hm⟩
 exact ⟨DRow.of_own hown2,Nat.le_trans hb h1.1,h2.1,h2.2,hB.grown hg hB.size (fun k e=>Nat.le_trans hb (hv.lt k e).1)⟩
theorem du_one (d:Du):∀ u∈d.l,u.oneCell' = true:=by
 intro u hu
 simp only [Du.l,List.mem_cons,List.not_mem_nil,or_false] at hu
 rcases hu with rfl | rfl <;> rfl
theorem D2.grown {W W' : World} {p base n:Nat} {d:Du} {v:Value} {xs:List Value} (h:D2 W p d) (ho:W.ownsRow base 127 2 v n xs) (hp:p<base) (hb:base≤W.heap.size) (hg:W.grownBy W' v.ownBlock):D2 W' p d:=by
 have hne:some p≠v.ownBlock:=fun e=>by have:=(ho.lt p e.symm).1;omega
 exact ⟨(hg.cell_far ⟨p,0,none⟩ (by show p<_;omega) hne).trans h.1,(hg.cell_far ⟨p,1,none⟩ (by show p<_;omega) hne).trans h.2⟩
theorem push_pre0 {w w1 w2:World} {l:List Du} {d:Du} {p:Nat} {v:Value} (hB:Below w.heap.size w w1) (hp:p<w1.heap.size) (hs:D2 w1.drew p d) (ho:w2.ownsRow w1.drew.heap.size 127 2 v l.length (dcs l)) (hb:Below w1.drew.heap.size w1.drew w2) :
  D2 w2 p d∧D2 (w2.alloc (.cells #[.int .i64 d.dl,.int .i64 d.id] 127)) p d∧(w2.alloc (.cells #[.int .i64 d.dl,.int .i64 d.id] 127)).ownsRow w1.heap.size 127 2 v l.length (dcs l)∧w1.heap.size≤(w2.alloc (.cells #[.int .i64 d.dl,.int .i64 d.id] 127)).heap.size∧Below w.heap.size w (w2.alloc (.cells #[.int .i64 d.dl,.int .i64 d.id] 127))∧∀ j u,d.l[j]? = some u→(w2.alloc (.cells #[.int .i64 d.dl,.int .i64 d.id] 127)).cell? ((⟨w2.heap.size,0,none⟩:Addr).add j)=some u:=by
 have hs2:D2 w2 p d:=hs.below hb hp
 have hsz:w1.heap.size≤w2.heap.size:=hb.size
 have hb2:Below w.heap.size w w2:=hB.trans ((drew_bel hb).mono hB.size)
 refine ⟨hs2,hs2.below ((Below.refl w2.heap.size w2).alloc (Nat.le_refl _) _) (by omega),ho.alloc _,by simp;omega,hb2.alloc hb2.size _,fun j u hu=>?_⟩
 rw [add_mk,Nat.zero_add,World.cell?_alloc_new]
 rw [←hu]
 simp [Du.l]
theorem push_pre1 {w w1 w2:World} {l:List Du} {d:Du} {p:Nat} {v:Value} (hB:Below w.heap.size w w1) (hp:p<w1.heap.size) (hs:D2 (w1.alloc (.cells #[.int .i64 d.dl,.int .i64 d.id] 127)).drew p d) (ho:w2.ownsRow (w1.alloc (.cells #[.int .i64 d.dl,.int .i64 d.id] 127)).drew.heap.size 127 2 v l.length (dcs l)) (hb:Below (w1.alloc (.cells #[.int .i64 d.dl,.int .i64 d.id] 127)).drew.heap.size (w1.alloc (.cells #[.int .i64 d.dl,.int .i64 d.id] 127)).drew w2) :
  D2 w2 p d∧w2.ownsRow w1.heap.size 127 2 v l.length (dcs l)∧w1.heap.size≤w2.heap.size∧Below w.heap.size w w2∧∀ j u,d.l[j]? = some u→w2.cell? ((⟨w1.heap.size,0,none⟩:Addr).add j)=some u:=by
 have hz:(w1.alloc (.cells #[.int .i64 d.dl,.int .i64 d.id] 127)).drew.heap.size=w1.heap.size+1:=by simp
 have hb':=drew_bel hb
 have hz' : (w1.alloc (.cells #[.int .i64 d.dl,.int .i64 d.id] 127)).heap.size=w1.heap.size+1:=by simp
 have hsz:w1.heap.size+1≤w2.heap.size:=by rw [←hz];exact hb.size
 refine ⟨hs.below hb (by rw [hz];omega),own_low ho (by rw [hz];omega),by omega,(hB.alloc hB.size _).trans (hb'.mono (by rw [hz'];have:=hB.size;omega)),fun j u hu=>?_⟩
 rw [add_mk,Nat.zero_add,hb'.cell (p:=⟨w1.heap.size,j,none⟩) (by show w1.heap.size<_;rw [hz'];omega),World.cell?_alloc_new]
 rw [←hu]
 simp [Du.l]
set_option maxHeartbeats 4000000 in
set_option maxRecDepth 20000 in
theorem dpush_any (A:Option Addr) (n c:Nat) (l:List Du) (d:Du) (w:World) (hv:Dl w w.heap.size (.slice A n c) l) :
  Calls Tryz.prog 98 #[.slice A n c,d.v] w (DlE w (puR l d) (hpuE l d)):=by
 obtain ⟨rfl,hm1,hm2⟩:=hv.len
 have HB:=Lh ((Below.refl w.heap.size w).alloc (Nat.le_refl _) (.cells #[.int .i64 d.dl,.int .i64 d.id] 127))
 have HV0:=Lh ((hv.alloc (Nat.le_refl _) (.cells #[.int .i64 d.dl,.int .i64 d.id] 127)).more (show w.heap.size≤(w.alloc (.cells #[.int .i64 d.dl,.int .i64 d.id] 127)).heap.size by simp))
 have HD0:=Lh (D2.start w d 127)
 have HV:=Lh hv
 have HPE:=Lh (fun w1 hv=>dpusherr_any A l.length c l d w1 hv)
 clear hv hm1 hm2
 by_cases h0:hpuE l d=0
 ·have HPR:=Lh (show puR l d=hpu l d from if_pos h0)
  obtain ⟨hva,hsn,hl12,hid⟩:=hpuE_zero h0
  rw [h0] at HPE
  have HCL:=Lh (fun w1 hv=>dclone_any A l.length c l w1 hv (by omega))
  have HSU:=Lh (fun g cap w1 hr=>siftup_any g (l.length+1) cap l.length (l++[d]) w1 hr (by simp) (by omega) (by omega))
  have HL12:=Lh hl12
  have hl100:(l.length:Int)≤100:=by omega
  obtain ⟨i0,hi0,hz0⟩:=Option.map_eq_some_iff.1 info_due
  simp only [Prod.mk.injEq] at hz0
  have HI:=Lh hi0
  have HZ:=Lh hz0
  rw [h0]
  clear h0 hva hsn hl12 hid hi0 hz0
  go_enter Tryz.func98,Tryz.ntmps98
  go_wp2_with fail
  refine (HPE.out _ HV0.out).mono ?_
  rintro e w1 ⟨rfl,hb⟩
  have HB1:=Lh (HB.out.trans (hb.mono HB.out.size))
  have HD1:=Lh (HD0.out.below hb (by simp))
  clear hb
  go_wp2_with fail
  obtain ⟨p,hp⟩:∃ p,p=w.heap.size:=⟨_,rfl⟩
  have HPP:=Lh hp
  rw [←hp] at HD1 ⊢
  clear hp
  go_cut [0] (fun s0 wx=>∃ g cap,s0=.slice (some ⟨g,0,none⟩) (l.length+1) cap∧DRow wx g (l.length+1) (ge (l++[d]))∧w.heap.size≤g∧l.length+1≤cap∧cap≤maxLen∧Below w.heap.size w wx)
  case first=>
   obtain ⟨c0,c1⟩:=HD1.out
   have hpl:=World.block_lt_of_cell? w1 ⟨p,0,none⟩ c0
   have HPL:=Lh hpl
   have HS0:=Lh (show D2 w1.drew p d from HD1.out)
   have HS1:=Lh (HD1.out.below (W':=(w1.alloc (.cells #[.int .i64 d.dl,.int .i64 d.id] 127)).drew) (((Below.refl w1.heap.size w1).alloc (Nat.le_refl _) _).drew) hpl)
   have HA0:=Lh (show Dl w1.drew w1.drew.heap.size (.slice A l.length c) l from HV.out.up HB1.out.drew)
   have HA1:=Lh (show Dl (w1.alloc (.cells #[.int .i64 d.dl,.int .i64 d.id] 127)).drew (w1.alloc (.cells #[.int .i64 d.dl,.int .i64 d.id] 127)).drew.heap.size (.slice A l.length c) l from HV.out.up ((HB1.out.alloc HB1.out.size _).drew))
   have HP0:=Lh (fun w2 v ho hb=>push_pre0 (w:=w) (w1:=w1) (w2:=w2) (l:=l) (d:=d) (p:=p) (v:=v) HB1.out HPL.out HS0.out ho hb)
   have HP1:=Lh (fun w2 v ho hb=>push_pre1 (w:=w) (w1:=w1) (w2:=w2) (l:=l) (d:=d) (p:=p) (v:=v) HB1.out HPL.out HS1.out ho hb)
   clear hpl
   go_region_held3 (fun W=>W.cell? ⟨p,0,none⟩=some (.int .i64 d.dl)∧W.cell? ⟨p,1,none⟩=some (.int .i64 d.id))
    (first | with_reducible exact HS0.out | with_reducible exact HS1.out | with_reducible exact HS2.out | with_reducible exact HS3.out | with_reducible exact HS4.out)
    (first
    | (refine step_append_lies _ (by rfl) _ _ _ (by rfl) w1.heap.size 127 i0 _ 2 16 Tryz.underlying29 HI.out HZ.out.1 HZ.out.2.1 HZ.out.2.2 rfl (by omega) v l.length (dcs l) (by rfl) HO.out ⟨w2.heap.size,0,none⟩ 1 1 d.l (by rfl) (by simp [Du.l_len]) HN.out (du_one d) (by omega) (by have:=HL12.out;unfold maxLen;omega) (by have:=HL12.out;omega) HBS.out _ rfl ?_;intro g1 cap1 w3 hown1 hgrow1 hat1 hlt1;have HFN:=Lh (push_end HBF.out HO.out HB1.out.size hown1 hgrow1);have HS4:=Lh (HS3.out.grown HO.out HPL.out HBS.out hgrow1);clear hown1 hgrow1 hat1 hlt1)
    | (refine step_append_lies _ (by rfl) _ _ _ (by rfl) w1.heap.size 127 i0 _ 2 16 Tryz.underlying29 HI.out HZ.out.1 HZ.out.2.1 HZ.out.2.2 rfl (by omega) v l.length (dcs l) (by rfl) HO.out ⟨w1.heap.size,0,none⟩ 1 1 d.l (by rfl) (by simp [Du.l_len]) HN.out (du_one d) (by omega) (by have:=HL12.out;unfold maxLen;omega) (by have:=HL12.out;omega) HBS.out _ rfl ?_;intro g1 cap1 w3 hown1 hgrow1 hat1 hlt1;have HFN:=Lh (push_end HBF.out HO.out HB1.out.size hown1 hgrow1);have HS4:=Lh (HS3.out.grown HO.out HPL.out HBS.out hgrow1);clear hown1 hgrow1 hat1 hlt1)
    | (go_at_call 106;(with_reducible refine (HCL.out _ HA0.out).mono ?_);rintro e w2 ⟨v,rfl,ho,hb⟩;obtain ⟨hs2,hs3,ho3,hbs,hbf,hn⟩:=HP0.out _ _ ho hb;have HS2:=Lh hs2;have HS3:=Lh hs3;have HO:=Lh ho3;have HBS:=Lh hbs;have HBF:=Lh hbf;have HN:=Lh hn;clear ho hb hs2 hs3 ho3 hbs hbf hn)
    | (go_at_call 106;(with_reducible refine (HCL.out _ HA1.out).mono ?_);rintro e w2 ⟨v,rfl,ho,hb⟩;obtain ⟨hs3,ho3,hbs,hbf,hn⟩:=HP1.out _ _ ho hb;have HS3:=Lh hs3;have HO:=Lh ho3;have HBS:=Lh hbs;have HBF:=Lh hbf;have HN:=Lh hn;clear ho hb hs3 ho3 hbs hbf hn))
   all_goals (go_wp2_with fail;go_meet;exact ⟨g1,cap1,rfl,HFN.out⟩)
  case rest=>
   obtain ⟨g,cap,rfl,hrow,hg,hle,hmx,hbel⟩:=hcut
   have HSG:=Lh (HSU.out g cap wc hrow)
   have HB2:=Lh hbel
   have HG:=Lh hg
   have HM:=Lh (And.intro hle hmx)
   clear hrow hg hle hmx hbel
   go_wp2_with fail
   refine HSG.out.mono ?_
   rintro e w3 ⟨rfl,hr⟩
   have hlen:(upF (l++[d]) l.length).length=l.length+1:=by rw [upF_len];simp
   have HD:=Lh (show Dl w3 w3.heap.size (.slice (some ⟨g,0,none⟩) (l.length+1) cap) (hpu l d) from by
    have h1:=hr.row.dl (l.length+1) cap (Nat.le_refl _) HM.out.1 HM.out.2
    have h2:(List.range (l.length+1)).map (ge (upF (l++[d]) l.length))=upF (l++[d]) l.length:=by
     have:=ge_row (upF (l++[d]) l.length)
     rw [hlen] at this
     exact this
    rw [h2] at h1
    exact h1)
   have HBZ:=Lh (HB2.out.trans (hr.bel.mono HG.out))
   have HPL:=Lh (puF_len l d)
   clear hr hlen
   go_wp2
   exact bodyPost_ret (v:=.tuple #[.slice (some ⟨g,0,none⟩) (l.length+1) cap,.int .i64 0]) (by simp only [results,Tryz.results98];go_simp <;> rfl) rfl ⟨some ⟨g,0,none⟩,cap,by rw [HPR.out,HPL.out],nw_some HG.out,by rw [HPR.out,HPL.out];exact HD.out,HBZ.out⟩
 ·have HC:=Lh (show puR l d=[] from if_neg h0)
  have hne:(hpuE l d != 0)=true:=bne_iff_ne.2 h0
  generalize hpuE l d=x at*
  clear h0
  go_enter Tryz.func98,Tryz.ntmps98
  go_wp2_with fail
  refine (HPE.out _ HV0.out).mono ?_
  rintro e w1 ⟨rfl,hb⟩
  have HB1:=Lh (HB.out.trans (hb.mono HB.out.size))
  clear hb
  go_wp2
  exact bodyPost_ret (v:=.tuple #[.slice none 0 0,.int .i64 x]) (by simp only [results,Tryz.results98];go_simp <;> rfl) rfl ⟨none,0,by rw [HC.out];rfl,nw_none,by rw [HC.out];exact Dl.nil,HB1.out⟩
end Go.Proofs.YtncgbldcjfbknaaGreat
