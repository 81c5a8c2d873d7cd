/- What is proved here: Rlb; due.Validate and slices.Clone of deadlines by contracts; due.siftUp by a contract; due.siftDown by a contract. -/
import Derived.Test.YtdobenkkkkaipaaGreatJ14
import Derived.BigRegion
import Derived.Deep.CutRange
/- Plain: a box of a lease that may be written; Find's answers. -/
namespace Go.Proofs.YtdobenkkkkaipaaGreat
open Go.RowKit
set_option linter.unusedVariables false
abbrev RL (W:World) (r:Nat) (X:Le):Prop:=W.cell? ⟨r,0,none⟩=some (.int .i64 X.m.id)∧W.cell? ⟨r,1,none⟩=some (.int .i64 X.m.rt)∧W.cell? ⟨r,2,none⟩=some (.int .i64 X.m.ep)∧W.cell? ⟨r,3,none⟩=some (.int .i64 X.m.ct)∧W.cell? ⟨r,4,none⟩=some (.int .i64 X.m.gn)∧W.cell? ⟨r,5,none⟩=some (.int .i64 X.m.st)∧W.cell? ⟨r,6,none⟩=some (.string X.m.bd)∧W.cell? ⟨r,7,none⟩=some (.int .i64 X.dl)∧W.frozen? ⟨r,0,none⟩=false∧W.frozen? ⟨r,1,none⟩=false∧W.frozen? ⟨r,2,none⟩=false∧W.frozen? ⟨r,3,none⟩=false∧W.frozen? ⟨r,4,none⟩=false∧W.frozen? ⟨r,5,none⟩=false∧W.frozen? ⟨r,6,none⟩=false∧W.frozen? ⟨r,7,none⟩=false∧r<W.heap.size
theorem RL.below {B:Nat} {W W' : World} {r:Nat} {X:Le} (h:RL W r X) (hb:Below B W W') (hr:r<B):RL W' r X:=
 ⟨(hb.cell (p:=⟨r,0,none⟩) hr).trans h.1,(hb.cell (p:=⟨r,1,none⟩) hr).trans h.2.1,(hb.cell (p:=⟨r,2,none⟩) hr).trans h.2.2.1,(hb.cell (p:=⟨r,3,none⟩) hr).trans h.2.2.2.1,(hb.cell (p:=⟨r,4,none⟩) hr).trans h.2.2.2.2.1,(hb.cell (p:=⟨r,5,none⟩) hr).trans h.2.2.2.2.2.1,(hb.cell (p:=⟨r,6,none⟩) hr).trans h.2.2.2.2.2.2.1,(hb.cell (p:=⟨r,7,none⟩) hr).trans h.2.2.2.2.2.2.2.1,(hb.frozen (p:=⟨r,0,none⟩) hr).trans h.2.2.2.2.2.2.2.2.1,(hb.frozen (p:=⟨r,1,none⟩) hr).trans h.2.2.2.2.2.2.2.2.2.1,(hb.frozen (p:=⟨r,2,none⟩) hr).trans h.2.2.2.2.2.2.2.2.2.2.1,(hb.frozen (p:=⟨r,3,none⟩) hr).trans h.2.2.2.2.2.2.2.2.2.2.2.1,(hb.frozen (p:=⟨r,4,none⟩) hr).trans h.2.2.2.2.2.2.2.2.2.2.2.2.1,(hb.frozen (p:=⟨r,5,none⟩) hr).trans h.2.2.2.2.2.2.2.2.2.2.2.2.2.1,(hb.frozen (p:=⟨r,6,none⟩) hr).trans h.2.2.2.2.2.2.2.2.2.2.2.2.2.2.1,(hb.frozen (p:=⟨r,7,none⟩) hr).trans h.2.2.2.2.2.2.2.2.2.2.2.2.2.2.2.1,Nat.lt_of_lt_of_le h.2.2.2.2.2.2.2.2.2.2.2.2.2.2.2.2 hb.size⟩
theorem RL.lt {W:World} {r:Nat} {X:Le} (h:RL W r X):r<W.heap.size:=h.2.2.2.2.2.2.2.2.2.2.2.2.2.2.2.2
theorem RL.start (w:World) (X:Le) (t:TypeId):RL (w.alloc (.cells #[.int .i64 X.m.id,.int .i64 X.m.rt,.int .i64 X.m.ep,.int .i64 X.m.ct,.int .i64 X.m.gn,.int .i64 X.m.st,.string X.m.bd,.int .i64 X.dl] t)) w.heap.size X:=
 ⟨by simp [go_sem],by simp [go_sem],by simp [go_sem],by simp [go_sem],by simp [go_sem],by simp [go_sem],by simp [go_sem],by simp [go_sem],by simp [go_sem],by simp [go_sem],by simp [go_sem],by simp [go_sem],by simp [go_sem],by simp [go_sem],by simp [go_sem],by simp [go_sem],by simp⟩
theorem fn_no {l:List Le} {h:List Du} {id:Int} (hn:¬(tbV l h=0∧0≤kFi Le.id l id)):fnO l h id=false∧fnX l h id=zL:=by
 have e:fnO l h id=false:=decide_eq_false hn
 exact ⟨e,by unfold fnX;rw [if_neg (by rw [e];decide)]⟩
theorem fn_yes {l:List Le} {h:List Du} {id:Int} {k:Nat} (h0:tbV l h=0) (hk:k<l.length) (e:kFi Le.id l id=k):fnO l h id=true∧fnX l h id=l[k]:=by
 have e1:fnO l h id=true:=decide_eq_true ⟨h0,by omega⟩
 exact ⟨e1,by unfold fnX;rw [if_pos e1,e,Int.toNat_natCast,lg_get hk]⟩
end Go.Proofs.YtdobenkkkkaipaaGreat
namespace Go.Proofs.YtdobenkkkkaipaaGreat
open Go.RowKit
set_option linter.unusedVariables false
set_option maxHeartbeats 2000000 in
theorem dvalid_any (A:Option Addr) (n c:Nat) (l:List Du) (w:World) (hv:Dl w w.heap.size (.slice A n c) l) :
  Calls Tryz.prog 115 #[.slice A n c] w fun e w'=>e=.returned (.int .i64 (vaF l))∧Below w.heap.size w w':=by
 obtain ⟨rfl,hm1,hm2⟩:=hv.len
 have HV:=Lh hv
 have HB:=Lh (Below.refl w.heap.size w)
 have H1:=Lh (fun w1 hv=>dcontains_any A l.length c l w1 hv)
 have H2:=Lh (fun w1 hv=>dsame_any A l.length c l w1 hv)
 have H3:=Lh (fun h w1 hv=>dordered_any A l.length c l w1 hv h)
 clear hv hm1 hm2
 by_cases h12:12<l.length
 ·have HR:=Lh (vaF_2 h12)
  have h12' : (12:Int)<(l.length:Int):=by omega
  go_enter Tryz.func115,Tryz.ntmps115
  go_wp2
  go_ret
  exact ⟨by rw [HR.out];rfl,HB.out⟩
 ·have h12' : ¬(12:Int)<(l.length:Int):=by omega
  have H3:=Lh (H3.out (by omega))
  have HL:=Lh (show l.length≤12 by omega)
  have HC:=Lh (fun a b d=>And.intro (vaF_1 (h:=l) HL.out) (And.intro (fun x=>vaF_10 (h:=l) HL.out x a) (And.intro (fun x y=>vaF_11 (h:=l) HL.out x y b) (fun x y=>vaF_0 (h:=l) HL.out x y d))))
  cases hs:snD l with
  | false=>
   have HR:=Lh (vaF_1 (h:=l) HL.out hs)
   rw [hs] at H1
   go_enter Tryz.func115,Tryz.ntmps115
   go_wp2_with fail
   refine (H1.out _ HV.out).mono ?_
   rintro e w1 ⟨rfl,hb⟩
   have HB1:=Lh hb
   clear hb
   go_wp2
   go_ret
   exact ⟨by rw [HR.out];rfl,HB1.out⟩
  | true=>
   rw [hs] at H1
   cases hd:dpD l with
   | true=>
    have HR:=Lh (vaF_10 (h:=l) HL.out hs hd)
    rw [hd] at H2
    go_enter Tryz.func115,Tryz.ntmps115
    go_wp2_with fail
    refine (H1.out _ HV.out).mono ?_
    rintro e w1 ⟨rfl,hb⟩
    have HB1:=Lh hb
    clear hb
    go_wp2_with fail
    refine (H2.out _ (HV.out.up HB1.out)).mono ?_
    rintro e w2 ⟨rfl,hb⟩
    have HB2:=Lh (HB1.out.trans (hb.mono HB1.out.size))
    clear hb
    go_wp2
    go_ret
    exact ⟨by rw [HR.out];rfl,HB2.out⟩
   | false=>
    rw [hd] at H2
    cases ho:hpD l with
    | false=>
     have HR:=Lh (vaF_11 (h:=l) HL.out hs hd ho)
     rw [ho] at H3
     go_enter Tryz.func115,Tryz.ntmps115
     go_wp2_with fail
     refine (H1.out _ HV.out).mono ?_
     rintro e w1 ⟨rfl,hb⟩
     have HB1:=Lh hb
     clear hb
     go_wp2_with fail
     refine (H2.out _ (HV.out.up HB1.out)).mono ?_
     rintro e w2 ⟨rfl,hb⟩
     have HB2:=Lh (HB1.out.trans (hb.mono HB1.out.size))
     clear hb
     go_wp2_with fail
     refine (H3.out _ (HV.out.up HB2.out)).mono ?_
     rintro e w3 ⟨rfl,hb⟩
     have HB3:=Lh (HB2.out.trans (hb.mono HB2.out.size))
     clear hb
     go_wp2
     go_ret
     exact ⟨by rw [HR.out];rfl,HB3.out⟩
    | true=>
     have HR:=Lh (vaF_0 (h:=l) HL.out hs hd ho)
     rw [ho] at H3
     go_enter Tryz.func115,Tryz.ntmps115
     go_wp2_with fail
     refine (H1.out _ HV.out).mono ?_
     rintro e w1 ⟨rfl,hb⟩
     have HB1:=Lh hb
     clear hb
     go_wp2_with fail
     refine (H2.out _ (HV.out.up HB1.out)).mono ?_
     rintro e w2 ⟨rfl,hb⟩
     have HB2:=Lh (HB1.out.trans (hb.mono HB1.out.size))
     clear hb
     go_wp2_with fail
     refine (H3.out _ (HV.out.up HB2.out)).mono ?_
     rintro e w3 ⟨rfl,hb⟩
     have HB3:=Lh (HB2.out.trans (hb.mono HB2.out.size))
     clear hb
     go_wp2
     go_ret
     exact ⟨by rw [HR.out];rfl,HB3.out⟩
theorem info_due:(Tryz.prog.info? 133).map (fun i=>(i.zero,i.size,i.bytes))=some (some (.agg #[.int .i64 0,.int .i64 0]),2,16):=by kernel_rfl
def DClP (w:World) (l:List Du) (e:Ending) (w' : World):Prop:=∃ v,e=.returned v∧w'.ownsRow w.heap.size 133 2 v l.length (dcs l)∧Below w.heap.size w w'
theorem dclone_end {w w1:World} {l:List Du} {v1:Value} {o:Obj} (hown:w1.ownsRow w.heap.size 133 2 v1 (0+l.length) ([]++dcs l)) (hg:(w.alloc o).grownBy w1 (Value.ownBlock (.slice (some ⟨w.heap.size,0,none⟩) 0 0))):DClP w l (.returned v1) w1:=by
 rw [Nat.zero_add,List.nil_append] at hown
 exact ⟨v1,rfl,hown,(((Below.refl _ _).alloc (Nat.le_refl _) o)).grown hg (by simp) (fun k hk=>by simp [Value.ownBlock] at hk;omega)⟩
set_option maxHeartbeats 2000000 in
theorem dclone_any (A:Option Addr) (n c:Nat) (l:List Du) (w:World) (hv:Dl w w.heap.size (.slice A n c) l) (h2:n≤1000) :
  Calls Tryz.prog 128 #[.slice A n c] w (DClP w l):=by
 obtain ⟨rfl,hm1,hm2⟩:=hv.len
 obtain ⟨i0,hi0,hz0⟩:=Option.map_eq_some_iff.1 info_due
 simp only [Prod.mk.injEq] at hz0
 have HI:=Lh hi0
 have HZ:=Lh hz0
 have HV:=Lh hv
 have heq:∀ W,(binOp .eql 29 (.slice A l.length c) (.slice none 0 0)).run Tryz.prog W=.ok (.bool A.isNone) W:=fun W=>Lib.run_eql_slice_nil W _ _ _ _ _ _ _ Tryz.underlying29
 have HRD:=Lh hv.rd
 clear hv hi0 hz0
 cases A with
 | none=>
  have hl:l=[]:=by
   cases l with
   | nil=>rfl
   | cons d l=>obtain ⟨b,o,e,_⟩:=HRD.out.2 (by simp);cases e
  subst hl
  have HP:=Lh (show DClP w [] (.returned (.slice none 0 0)) w from ⟨_,rfl,World.ownsRow_nil w _ _ _,Below.refl _ _⟩)
  simp only [List.length_nil,Option.isNone_none] at heq ⊢
  go_enter Tryz.func128,Tryz.ntmps128
  go_wp2
  go_ret
  exact HP.out
 | some a=>
  simp only [Option.isNone_some] at heq
  go_enter Tryz.func128,Tryz.ntmps128
  go_wp2_with (at_builtin;refine wpList_append_rd _ rfl (.tmp 5) (.tmp 6) 29 rfl w.heap.size 133 i0 _ 2 16 Tryz.underlying29 HI.out HZ.out.1 HZ.out.2.1 HZ.out.2.2 rfl (by omega) (.slice (some ⟨w.heap.size,0,none⟩) 0 0) 0 [] rfl (World.ownsRow_made w #[] 0 (Nat.le_refl _) (Nat.zero_le _) rfl) w.heap.size (some a) l.length c (dcs l) rfl (HV.out.alloc (Nat.le_refl _) _).rd (dcs_one l) (by unfold maxLen;omega) (by omega) (by simp) ?_;intro v1 w1 hown1 hg1 hat1)
  have HP:=Lh (dclone_end hown1 hg1)
  clear hown1 hg1 hat1
  go_wp2
  go_ret
  exact HP.out
structure RwAt (w:World) (q n:Nat) (h:List Du) (W:World):Prop where
 row:DRow W q n (ge h)
 len:h.length=n
 bel:Below q w W
section
variable {w W W' : World} {q n:Nat} {h:List Du}
theorem RwAt.below (r:RwAt w q n h W) (hb:Below W.heap.size W W'):RwAt w q n h W':=⟨r.row.below hb r.row.1,r.len,r.bel.trans (hb.mono (Nat.le_of_lt r.row.1))⟩
theorem RwAt.drew (r:RwAt w q n h W):RwAt w q n h W.drew:=⟨r.row.drew,r.len,r.bel.drew⟩
theorem RwAt.drewN (r:RwAt w q n h W) (k:Nat):RwAt w q n h (W.drewN k):=⟨r.row,r.len,⟨r.bel.os,r.bel.tape,r.bel.output,r.bel.size,r.bel.block⟩⟩
theorem RwAt.swap (r:RwAt w q n h W) {i k:Nat} (hi:i<n) (hk:k<n):RwAt w q n (swp h i k) ((((W.setCell ⟨q,i*2,none⟩ (.int .i64 (ge h k).dl)).setCell ⟨q,i*2+1,none⟩ (.int .i64 (ge h k).id)).setCell ⟨q,k*2,none⟩ (.int .i64 (ge h i).dl)).setCell ⟨q,k*2+1,none⟩ (.int .i64 (ge h i).id)):=by
 refine ⟨((r.row.put hi (ge h k)).put hk (ge h i)).congr fun t ht=>?_,by rw [swp_len];exact r.len,(((r.bel.setCell (p:=⟨q,i*2,none⟩) (Nat.le_refl _) _).setCell (p:=⟨q,i*2+1,none⟩) (Nat.le_refl _) _).setCell (p:=⟨q,k*2,none⟩) (Nat.le_refl _) _).setCell (p:=⟨q,k*2+1,none⟩) (Nat.le_refl _) _⟩
 rw [ge_swp (by rw [r.len];exact hi) (by rw [r.len];exact hk)]
end
set_option maxHeartbeats 2000000 in
set_option maxRecDepth 20000 in
theorem siftup_any (q n cap i:Nat) (h:List Du) (w:World) (hr:DRow w q n (ge h)) (hn:h.length=n) (hi:i<n) (h100:n≤100) :
  Calls Tryz.prog 172 #[.slice (some ⟨q,0,none⟩) n cap,.int .i64 i] w fun e w'=>e=.returned (.tuple #[])∧RwAt w q n (upF h i) w':=by
 have H:=Lh (RwAt.mk hr hn (Below.refl q w))
 have HP:=Lh (fun (j:Nat) (hj:j<n) w=>parent_any j (by omega) w)
 clear hr hn
 go_enter Tryz.func172,Tryz.ntmps172
 go_wp2_with fail
 refine (HP.out i hi _).mono ?_
 rintro e w1 ⟨rfl,rfl⟩
 go_wp2
 go_loopw [1,4] (fun iv pv wr=>∃ (j:Nat) (g:List Du),iv=.int .i64 j∧pv=.int .i64 (((j - 1) / 2:Nat):Int)∧j≤i∧upF g j=upF h i∧RwAt w q n g wr) (fun iv _ _=>(intOf iv).toNat)
 case atStart=>exact ⟨i,h,rfl,rfl,Nat.le_refl _,rfl,H.out⟩
 case round=>
  obtain ⟨j,g,rfl,rfl,hji,hu,hra⟩:=hrel
  have HR:=Lh hra
  have HU:=Lh hu
  have hjn:j<n:=by omega
  obtain ⟨p,hp⟩:∃ p,p=(j - 1) / 2:=⟨_,rfl⟩
  have HPP:=Lh hp
  have hpn:p<n:=by omega
  rw [←hp]
  have HB:=Lh (fun w=>before_any (ge g j) (ge g p) w)
  have HSW:=Lh (fun w1 (hb1:Below wr.drew.heap.size wr.drew w1)=>hra.drew.below hb1)
  obtain ⟨c0,c1,f0,f1,hq⟩:=hra.row.at_ hjn
  obtain ⟨d0,d1,e0,e1,-⟩:=hra.row.at_ hpn
  have hjn' : (j:Int)<(n:Int):=by omega
  have hpn' : (p:Int)<(n:Int):=by omega
  clear hra hu hp
  cases hb:bef (ge g j) (ge g p) with
  | true=>
   rw [hb] at HB
   have HBB:=Lh hb
   have HNE:=Lh (show ¬j=p∧¬p=j by
    have:j≠p:=fun e=>by rw [e,bef_irr] at hb;cases hb
    omega)
   clear hb
   obtain ⟨X,hX⟩:∃ X,ge g j=X:=⟨_,rfl⟩
   obtain ⟨Y,hY⟩:∃ Y,ge g p=Y:=⟨_,rfl⟩
   rw [hX] at c0 c1 HB
   rw [hY] at d0 d1 HB
   have HX:=Lh hX
   have HY:=Lh hY
   clear hX hY
   go_wp2
   go_region_with ((go_at_call 189;refine (HB.out _).mono ?_;rintro e w1 ⟨rfl,hb1⟩;have HR1:=Lh (HSW.out _ hb1);clear hb1))
   all_goals
    clear c0 c1 d0 d1 f0 f1 e0 e1 hq
    obtain ⟨c0,c1,f0,f1,hq⟩:=HR1.out.row.at_ hjn
    obtain ⟨d0,d1,e0,e1,-⟩:=HR1.out.row.at_ hpn
    rw [HX.out] at c0 c1
    rw [HY.out] at d0 d1
    go_wp2
    obtain ⟨n1,n2⟩:=HNE.out
    go_region
    clear c0 c1 d0 d1 f0 f1 e0 e1 hq n1 n2
    have HR2:=Lh ((HR1.out.swap hjn hpn).drew)
    rw [HX.out,HY.out] at HR2
    generalize ((((w1.setCell ⟨q,j*2,none⟩ (.int .i64 Y.dl)).setCell ⟨q,j*2+1,none⟩ (.int .i64 Y.id)).setCell ⟨q,p*2,none⟩ (.int .i64 X.dl)).setCell ⟨q,p*2+1,none⟩ (.int .i64 X.id)).drew=w2 at*
    have HUU:=Lh (show upF (swp g j p) p=upF h i by
     have hb:=HBB.out
     rw [HPP.out] at hb ⊢
     rw [←HU.out,upF_step (by have:=HNE.out;have:=HPP.out;omega) hb])
    have HLT:=Lh (show p<j by have:=HNE.out;have:=HPP.out;omega)
    go_wp2_with fail
    refine (HP.out p hpn _).mono ?_
    rintro e w3 ⟨rfl,rfl⟩
    go_wp2
    go_roundw
    case rel=>exact ⟨p,swp g j p,rfl,rfl,by have:=HLT.out;omega,HUU.out,HR2.out⟩
    case measure=>have:=HLT.out;simp [intOf];omega
  | false=>
   rw [hb] at HB
   have HBB:=Lh hb
   have HUU:=Lh (show upF h i=g by
    rw [HPP.out] at hb
    rw [←HU.out,upF_stop hb])
   clear hb
   obtain ⟨X,hX⟩:∃ X,ge g j=X:=⟨_,rfl⟩
   obtain ⟨Y,hY⟩:∃ Y,ge g p=Y:=⟨_,rfl⟩
   rw [hX] at c0 c1 HB
   rw [hY] at d0 d1 HB
   clear hX hY
   go_wp2
   go_region_with ((go_at_call 189;refine (HB.out _).mono ?_;rintro e w1 ⟨rfl,hb1⟩;have HR1:=Lh (HSW.out _ hb1);clear hb1))
   all_goals
    go_wp2
    go_end0
    exact ⟨rfl,by rw [HUU.out];exact HR1.out⟩
set_option maxHeartbeats 2000000 in
set_option maxRecDepth 20000 in
theorem siftdown_any (q n cap i:Nat) (h:List Du) (w:World) (hr:DRow w q n (ge h)) (hn:h.length=n) (hi:i<n) (h100:n≤100) :
  Calls Tryz.prog 204 #[.slice (some ⟨q,0,none⟩) n cap,.int .i64 i] w fun e w'=>e=.returned (.tuple #[])∧RwAt w q n (dnF h i) w':=by
 have H:=Lh (RwAt.mk hr hn (Below.refl q w))
 have h100' : (n:Int)≤100:=by omega
 have hi' : (i:Int)≤100:=by omega
 clear hr hn
 go_enter Tryz.func204,Tryz.ntmps204
 go_wp2
 go_loopw [1,4] (fun iv cv wr=>∃ (j:Nat) (g:List Du),iv=.int .i64 j∧cv=.int .i64 (2*(j:Int)+1)∧j<n∧dnF g j=dnF h i∧RwAt w q n g wr) (fun iv _ _=>n - (intOf iv).toNat)
 case atStart=>exact ⟨i,h,rfl,by go_num,hi,rfl,H.out⟩
 case round=>
  obtain ⟨j,g,rfl,rfl,hjn,hu,hra⟩:=hrel
  have HR:=Lh hra
  have HU:=Lh hu
  clear hra hu
  by_cases hl:2*j+1<n
  ·have hl' : 2*(j:Int)+1<(n:Int):=by omega
   obtain ⟨kk,hkk⟩:∃ kk,kk=decide (2*j+2<n∧bef (ge g (2*j+2)) (ge g (2*j+1))=true):=⟨_,rfl⟩
   go_wp2
   go_cut [31] (fun s31 wx=>s31=.bool kk∧RwAt w q n g wx)
   case first=>
    by_cases h2:2*j+2<n
    ·have HB:=Lh (fun w=>before_any (ge g (2*j+2)) (ge g (2*j+1)) w)
     have HKK:=Lh (show kk=bef (ge g (2*j+2)) (ge g (2*j+1)) by rw [hkk];simp [h2])
     have HSW:=Lh (fun w1 (hb1:Below wr.drew.heap.size wr.drew w1)=>HR.out.drew.below hb1)
     obtain ⟨c0,c1,f0,f1,hq⟩:=HR.out.row.at_ h2
     obtain ⟨d0,d1,e0,e1,-⟩:=HR.out.row.at_ hl
     generalize ge g (2*j+2)=X at*
     generalize ge g (2*j+1)=Y at*
     rw [←HKK.out] at HB
     have HSC:=Lh (fun w1 (hb1:Below wr.drew.heap.size wr.drew w1)=>show w1.cell? ⟨q,(2*j+2)*2,none⟩=some (.int .i64 X.dl)∧w1.cell? ⟨q,(2*j+2)*2+1,none⟩=some (.int .i64 X.id)∧w1.cell? ⟨q,(2*j+1)*2,none⟩=some (.int .i64 Y.dl)∧w1.cell? ⟨q,(2*j+1)*2+1,none⟩=some (.int .i64 Y.id) from ⟨(hb1.cell (p:=⟨q,(2*j+2)*2,none⟩) hq).trans c0,(hb1.cell (p:=⟨q,(2*j+2)*2+1,none⟩) hq).trans c1,(hb1.cell (p:=⟨q,(2*j+1)*2,none⟩) hq).trans d0,(hb1.cell (p:=⟨q,(2*j+1)*2+1,none⟩) hq).trans d1⟩)
     clear hkk f0 f1 e0 e1
     have h2' : 2*(j:Int)+1+1<(n:Int):=by omega
     have h2d:decide (2*(j:Int)+1+1<(n:Int))=true:=by simpa using h2'
     have hw1:IntKind.i64.wrap (2*(j:Int)+1+1)=2*(j:Int)+1+1:=IntWalk.i64_in _ (by omega)
     have hn1:(0:Int)≤2*(j:Int)+1+1:=by omega
     have ht1:(2*(j:Int)+1+1).toNat=2*j+2:=by omega
     have hn0:(0:Int)≤2*(j:Int)+1:=by omega
     have ht0:(2*(j:Int)+1).toNat=2*j+1:=by omega
     have HSA:=Lh (show wr.drew.cell? ⟨q,(2*j+2)*2,none⟩=some (.int .i64 X.dl)∧wr.drew.cell? ⟨q,(2*j+2)*2+1,none⟩=some (.int .i64 X.id)∧wr.drew.cell? ⟨q,(2*j+1)*2,none⟩=some (.int .i64 Y.dl)∧wr.drew.cell? ⟨q,(2*j+1)*2+1,none⟩=some (.int .i64 Y.id) from ⟨c0,c1,d0,d1⟩)
     go_region_held3 (fun W=>W.cell? ⟨q,(2*j+2)*2,none⟩=some (.int .i64 X.dl)∧W.cell? ⟨q,(2*j+2)*2+1,none⟩=some (.int .i64 X.id)∧W.cell? ⟨q,(2*j+1)*2,none⟩=some (.int .i64 Y.dl)∧W.cell? ⟨q,(2*j+1)*2+1,none⟩=some (.int .i64 Y.id))
      (first | with_reducible exact HSA.out | with_reducible exact HSB.out)
      ((go_at_call 189;(with_reducible refine (HB.out _).mono ?_);rintro e w1 ⟨rfl,hb1⟩;have HR1:=Lh (HSW.out _ hb1);have HSB:=Lh (HSC.out _ hb1);clear hb1))
     go_wp2_with fail
     go_meet
     exact ⟨rfl,HR1.out⟩
    ·have HKK:=Lh (show kk=false by rw [hkk];simp [h2])
     have h2d:decide (2*(j:Int)+1+1<(n:Int))=false:=by simp;omega
     clear hkk h2
     have hw1:IntKind.i64.wrap (2*(j:Int)+1+1)=2*(j:Int)+1+1:=IntWalk.i64_in _ (by omega)
     go_quiet (fail)
     go_wp2_with fail
     go_meet
     exact ⟨by rw [HKK.out],HR.out.drewN _⟩
   case rest=>
    obtain ⟨rfl,hrc⟩:=hcut
    have HRC:=Lh hrc
    have hlen:g.length=n:=hrc.len
    clear hrc
    cases kk with
    | true=>
     have hk2:=of_decide_eq_true hkk.symm
     have HCH:=Lh (chF_two (h:=g) (i:=j) (by rw [hlen];exact hk2.1) hk2.2)
     have hcl:=hk2.1
     clear hkk hk2
     have HCL:=Lh (show 2*j+2<n by omega)
     have hjn' : (j:Int)<(n:Int):=by omega
     have HB:=Lh (fun w=>before_any (ge g (2*j+2)) (ge g j) w)
     have HSW:=Lh (fun w1 (hb1:Below wc.drew.heap.size wc.drew w1)=>HRC.out.drew.below hb1)
     obtain ⟨c0,c1,f0,f1,hq⟩:=HRC.out.row.at_ HCL.out
     obtain ⟨d0,d1,e0,e1,-⟩:=HRC.out.row.at_ hjn
     obtain ⟨X,hX⟩:∃ X,ge g (2*j+2)=X:=⟨_,rfl⟩
     obtain ⟨Y,hY⟩:∃ Y,ge g j=Y:=⟨_,rfl⟩
     rw [hX,hY] at HB
     rw [hX] at c0 c1
     rw [hY] at d0 d1
     have HX:=Lh hX
     have HY:=Lh hY
     cases hb:bef (ge g (2*j+2)) (ge g j) with
     | true=>
      have HBB:=Lh hb
      rw [hX,hY] at hb
      rw [hb] at HB
      clear hb
      go_wp2
      have HSA:=Lh (show wc.drew.cell? ⟨q,(2*j+2)*2,none⟩=some (.int .i64 X.dl)∧wc.drew.cell? ⟨q,(2*j+2)*2+1,none⟩=some (.int .i64 X.id)∧wc.drew.cell? ⟨q,j*2,none⟩=some (.int .i64 Y.dl)∧wc.drew.cell? ⟨q,j*2+1,none⟩=some (.int .i64 Y.id) from ⟨c0,c1,d0,d1⟩)
      have HSC:=Lh (fun w1 (hb1:Below wc.drew.heap.size wc.drew w1)=>show w1.cell? ⟨q,(2*j+2)*2,none⟩=some (.int .i64 X.dl)∧w1.cell? ⟨q,(2*j+2)*2+1,none⟩=some (.int .i64 X.id)∧w1.cell? ⟨q,j*2,none⟩=some (.int .i64 Y.dl)∧w1.cell? ⟨q,j*2+1,none⟩=some (.int .i64 Y.id) from ⟨(hb1.cell (p:=⟨q,(2*j+2)*2,none⟩) hq).trans c0,(hb1.cell (p:=⟨q,(2*j+2)*2+1,none⟩) hq).trans c1,(hb1.cell (p:=⟨q,j*2,none⟩) hq).trans d0,(hb1.cell (p:=⟨q,j*2+1,none⟩) hq).trans d1⟩)
      clear hX hY f0 f1 e0 e1
      have hcn:2*(j:Int)+1+1<(n:Int):=by omega
      have hn1:(0:Int)≤2*(j:Int)+1+1:=by omega
      have ht1:(2*(j:Int)+1+1).toNat=2*j+2:=by omega
      go_region_held3 (fun W=>W.cell? ⟨q,(2*j+2)*2,none⟩=some (.int .i64 X.dl)∧W.cell? ⟨q,(2*j+2)*2+1,none⟩=some (.int .i64 X.id)∧W.cell? ⟨q,j*2,none⟩=some (.int .i64 Y.dl)∧W.cell? ⟨q,j*2+1,none⟩=some (.int .i64 Y.id))
       (first | with_reducible exact HSA.out | with_reducible exact HSB.out)
       ((go_at_call 189;(with_reducible refine (HB.out _).mono ?_);rintro e w1 ⟨rfl,hb1⟩;have HR1:=Lh (HSW.out _ hb1);have HSB:=Lh (HSC.out _ hb1);clear hb1))
      clear c0 c1 d0 d1 hq
      obtain ⟨c0,c1,f0,f1,hq⟩:=HR1.out.row.at_ HCL.out
      obtain ⟨d0,d1,e0,e1,-⟩:=HR1.out.row.at_ hjn
      rw [HX.out] at c0 c1
      rw [HY.out] at d0 d1
      have n1:¬(j=2*j+2):=by omega
      have n2:¬(2*j+2=j):=by omega
      go_wp2
      go_region
      clear c0 c1 d0 d1 f0 f1 e0 e1 hq n1 n2
      have HR2:=Lh ((HR1.out.swap hjn HCL.out).drew)
      rw [HX.out,HY.out] at HR2
      generalize ((((w1.setCell ⟨q,j*2,none⟩ (.int .i64 X.dl)).setCell ⟨q,j*2+1,none⟩ (.int .i64 X.id)).setCell ⟨q,(2*j+2)*2,none⟩ (.int .i64 Y.dl)).setCell ⟨q,(2*j+2)*2+1,none⟩ (.int .i64 Y.id)).drew=w2 at*
      have HUU:=Lh (show dnF (swp g j (2*j+2)) (2*j+2)=dnF h i by
       rw [←HU.out,dnF_step (by rw [hlen];exact hl) HCH.out HBB.out])
      go_wp2
      go_roundw
      case rel=>exact ⟨2*j+2,swp g j (2*j+2),by go_num,by go_num,HCL.out,HUU.out,HR2.out⟩
      case measure=>have:=HCL.out;simp [intOf];omega
     | false=>
      have HUU:=Lh (show dnF h i=g by rw [←HU.out,dnF_stop HCH.out hb])
      rw [hX,hY] at hb
      rw [hb] at HB
      clear hb
      go_wp2
      have HSA:=Lh (show wc.drew.cell? ⟨q,(2*j+2)*2,none⟩=some (.int .i64 X.dl)∧wc.drew.cell? ⟨q,(2*j+2)*2+1,none⟩=some (.int .i64 X.id)∧wc.drew.cell? ⟨q,j*2,none⟩=some (.int .i64 Y.dl)∧wc.drew.cell? ⟨q,j*2+1,none⟩=some (.int .i64 Y.id) from ⟨c0,c1,d0,d1⟩)
      have HSC:=Lh (fun w1 (hb1:Below wc.drew.heap.size wc.drew w1)=>show w1.cell? ⟨q,(2*j+2)*2,none⟩=some (.int .i64 X.dl)∧w1.cell? ⟨q,(2*j+2)*2+1,none⟩=some (.int .i64 X.id)∧w1.cell? ⟨q,j*2,none⟩=some (.int .i64 Y.dl)∧w1.cell? ⟨q,j*2+1,none⟩=some (.int .i64 Y.id) from ⟨(hb1.cell (p:=⟨q,(2*j+2)*2,none⟩) hq).trans c0,(hb1.cell (p:=⟨q,(2*j+2)*2+1,none⟩) hq).trans c1,(hb1.cell (p:=⟨q,j*2,none⟩) hq).trans d0,(hb1.cell (p:=⟨q,j*2+1,none⟩) hq).trans d1⟩)
      clear hX hY f0 f1 e0 e1
      have hcn:2*(j:Int)+1+1<(n:Int):=by omega
      have hn1:(0:Int)≤2*(j:Int)+1+1:=by omega
      have ht1:(2*(j:Int)+1+1).toNat=2*j+2:=by omega
      go_region_held3 (fun W=>W.cell? ⟨q,(2*j+2)*2,none⟩=some (.int .i64 X.dl)∧W.cell? ⟨q,(2*j+2)*2+1,none⟩=some (.int .i64 X.id)∧W.cell? ⟨q,j*2,none⟩=some (.int .i64 Y.dl)∧W.cell? ⟨q,j*2+1,none⟩=some (.int .i64 Y.id))
       (first | with_reducible exact HSA.out | with_reducible exact HSB.out)
       ((go_at_call 189;(with_reducible refine (HB.out _).mono ?_);rintro e w1 ⟨rfl,hb1⟩;have HR1:=Lh (HSW.out _ hb1);have HSB:=Lh (HSC.out _ hb1);clear hb1))
      go_wp2
      refine bodyPost_ret (results_none rfl _ _ _) rfl ?_
      exact ⟨rfl,by rw [HUU.out];exact HR1.out⟩
    | false=>
     have hk2:=of_decide_eq_false hkk.symm
     have HCH:=Lh (chF_one (h:=g) (i:=j) (by rw [hlen];exact hk2))
     clear hkk hk2
     have HCL:=Lh (show 2*j+1<n by omega)
     have hjn' : (j:Int)<(n:Int):=by omega
     have HB:=Lh (fun w=>before_any (ge g (2*j+1)) (ge g j) w)
     have HSW:=Lh (fun w1 (hb1:Below wc.drew.heap.size wc.drew w1)=>HRC.out.drew.below hb1)
     obtain ⟨c0,c1,f0,f1,hq⟩:=HRC.out.row.at_ HCL.out
     obtain ⟨d0,d1,e0,e1,-⟩:=HRC.out.row.at_ hjn
     obtain ⟨X,hX⟩:∃ X,ge g (2*j+1)=X:=⟨_,rfl⟩
     obtain ⟨Y,hY⟩:∃ Y,ge g j=Y:=⟨_,rfl⟩
     rw [hX,hY] at HB
     rw [hX] at c0 c1
     rw [hY] at d0 d1
     have HX:=Lh hX
     have HY:=Lh hY
     cases hb:bef (ge g (2*j+1)) (ge g j) with
     | true=>
      have HBB:=Lh hb
      rw [hX,hY] at hb
      rw [hb] at HB
      clear hb
      go_wp2
      have HSA:=Lh (show wc.drew.cell? ⟨q,(2*j+1)*2,none⟩=some (.int .i64 X.dl)∧wc.drew.cell? ⟨q,(2*j+1)*2+1,none⟩=some (.int .i64 X.id)∧wc.drew.cell? ⟨q,j*2,none⟩=some (.int .i64 Y.dl)∧wc.drew.cell? ⟨q,j*2+1,none⟩=some (.int .i64 Y.id) from ⟨c0,c1,d0,d1⟩)
      have HSC:=Lh (fun w1 (hb1:Below wc.drew.heap.size wc.drew w1)=>show w1.cell? ⟨q,(2*j+1)*2,none⟩=some (.int .i64 X.dl)∧w1.cell? ⟨q,(2*j+1)*2+1,none⟩=some (.int .i64 X.id)∧w1.cell? ⟨q,j*2,none⟩=some (.int .i64 Y.dl)∧w1.cell? ⟨q,j*2+1,none⟩=some (.int .i64 Y.id) from ⟨(hb1.cell (p:=⟨q,(2*j+1)*2,none⟩) hq).trans c0,(hb1.cell (p:=⟨q,(2*j+1)*2+1,none⟩) hq).trans c1,(hb1.cell (p:=⟨q,j*2,none⟩) hq).trans d0,(hb1.cell (p:=⟨q,j*2+1,none⟩) hq).trans d1⟩)
      clear hX hY f0 f1 e0 e1
      have hn0:(0:Int)≤2*(j:Int)+1:=by omega
      have ht0:(2*(j:Int)+1).toNat=2*j+1:=by omega
      go_region_held3 (fun W=>W.cell? ⟨q,(2*j+1)*2,none⟩=some (.int .i64 X.dl)∧W.cell? ⟨q,(2*j+1)*2+1,none⟩=some (.int .i64 X.id)∧W.cell? ⟨q,j*2,none⟩=some (.int .i64 Y.dl)∧W.cell? ⟨q,j*2+1,none⟩=some (.int .i64 Y.id))
       (first | with_reducible exact HSA.out | with_reducible exact HSB.out)
       ((go_at_call 189;(with_reducible refine (HB.out _).mono ?_);rintro e w1 ⟨rfl,hb1⟩;have HR1:=Lh (HSW.out _ hb1);have HSB:=Lh (HSC.out _ hb1);clear hb1))
      clear c0 c1 d0 d1 hq
      obtain ⟨c0,c1,f0,f1,hq⟩:=HR1.out.row.at_ HCL.out
      obtain ⟨d0,d1,e0,e1,-⟩:=HR1.out.row.at_ hjn
      rw [HX.out] at c0 c1
      rw [HY.out] at d0 d1
      have n1:¬(j=2*j+1):=by omega
      have n2:¬(2*j+1=j):=by omega
      go_wp2
      go_region
      clear c0 c1 d0 d1 f0 f1 e0 e1 hq n1 n2
      have HR2:=Lh ((HR1.out.swap hjn HCL.out).drew)
      rw [HX.out,HY.out] at HR2
      generalize ((((w1.setCell ⟨q,j*2,none⟩ (.int .i64 X.dl)).setCell ⟨q,j*2+1,none⟩ (.int .i64 X.id)).setCell ⟨q,(2*j+1)*2,none⟩ (.int .i64 Y.dl)).setCell ⟨q,(2*j+1)*2+1,none⟩ (.int .i64 Y.id)).drew=w2 at*
      have HUU:=Lh (show dnF (swp g j (2*j+1)) (2*j+1)=dnF h i by
       rw [←HU.out,dnF_step (by rw [hlen];exact hl) HCH.out HBB.out])
      go_wp2
      go_roundw
      case rel=>exact ⟨2*j+1,swp g j (2*j+1),by go_num,by go_num,HCL.out,HUU.out,HR2.out⟩
      case measure=>have:=HCL.out;simp [intOf];omega
     | false=>
      have HUU:=Lh (show dnF h i=g by rw [←HU.out,dnF_stop HCH.out hb])
      rw [hX,hY] at hb
      rw [hb] at HB
      clear hb
      go_wp2
      have HSA:=Lh (show wc.drew.cell? ⟨q,(2*j+1)*2,none⟩=some (.int .i64 X.dl)∧wc.drew.cell? ⟨q,(2*j+1)*2+1,none⟩=some (.int .i64 X.id)∧wc.drew.cell? ⟨q,j*2,none⟩=some (.int .i64 Y.dl)∧wc.drew.cell? ⟨q,j*2+1,none⟩=some (.int .i64 Y.id) from ⟨c0,c1,d0,d1⟩)
      have HSC:=Lh (fun w1 (hb1:Below wc.drew.heap.size wc.drew w1)=>show w1.cell? ⟨q,(2*j+1)*2,none⟩=some (.int .i64 X.dl)∧w1.cell? ⟨q,(2*j+1)*2+1,none⟩=some (.int .i64 X.id)∧w1.cell? ⟨q,j*2,none⟩=some (.int .i64 Y.dl)∧w1.cell? ⟨q,j*2+1,none⟩=some (.int .i64 Y.id) from ⟨(hb1.cell (p:=⟨q,(2*j+1)*2,none⟩) hq).trans c0,(hb1.cell (p:=⟨q,(2*j+1)*2+1,none⟩) hq).trans c1,(hb1.cell (p:=⟨q,j*2,none⟩) hq).trans d0,(hb1.cell (p:=⟨q,j*2+1,none⟩) hq).trans d1⟩)
      clear hX hY f0 f1 e0 e1
      have hn0:(0:Int)≤2*(j:Int)+1:=by omega
      have ht0:(2*(j:Int)+1).toNat=2*j+1:=by omega
      go_region_held3 (fun W=>W.cell? ⟨q,(2*j+1)*2,none⟩=some (.int .i64 X.dl)∧W.cell? ⟨q,(2*j+1)*2+1,none⟩=some (.int .i64 X.id)∧W.cell? ⟨q,j*2,none⟩=some (.int .i64 Y.dl)∧W.cell? ⟨q,j*2+1,none⟩=some (.int .i64 Y.id))
       (first | with_reducible exact HSA.out | with_reducible exact HSB.out)
       ((go_at_call 189;(with_reducible refine (HB.out _).mono ?_);rintro e w1 ⟨rfl,hb1⟩;have HR1:=Lh (HSW.out _ hb1);have HSB:=Lh (HSC.out _ hb1);clear hb1))
      go_wp2
      refine bodyPost_ret (results_none rfl _ _ _) rfl ?_
      exact ⟨rfl,by rw [HUU.out];exact HR1.out⟩
  ·have HUU:=Lh (show dnF h i=g by rw [←HU.out,dnF_leaf (by rw [HR.out.len];exact hl)])
   have hl' : ¬(2*(j:Int)+1<(n:Int)):=by omega
   go_wp2
   go_end0
   exact ⟨rfl,by rw [HUU.out];exact HR.out⟩
end Go.Proofs.YtdobenkkkkaipaaGreat
