/- What is proved here: Slv; Bnl; shardqueueref05.swap, up by contracts; shardqueueref05.Push by a contract. -/
import Derived.Test.YtdobenkkkkaipaaGreatJ28
/- Plain: what Take's leases are: Holds, Ack and Nack of them. -/
namespace Go.Proofs.YtdobenkkkkaipaaGreat
open Go.RowKit
set_option linter.unusedVariables false
section
variable {V:Vs} {X:Le} {H:Hn} {now ep lim vis dl id:Int} {mx:Nat}
structure LvOk (S S' : Sh) (X:Le) (now vis ep lim:Int):Prop where
 dl:X.dl=now+vis
 a1:hoF S' ⟨X.m.id,X.m.gn,X.m.rt,0⟩ (now+vis) ep=false
 a2:0<vis→hoF S' ⟨X.m.id,X.m.gn,X.m.rt,0⟩ (now+vis - 1) ep=true
 a3:hoF S' ⟨X.m.id,X.m.gn - 1,X.m.rt,0⟩ now ep=false
 a4:hoF S' ⟨X.m.id,X.m.gn,(X.m.rt+1) % 65536,0⟩ now ep=false
 a5:hoF S ⟨X.m.id,X.m.gn,X.m.rt,0⟩ now ep=false
 b1:0<vis→heS S' ⟨X.m.id,X.m.gn,X.m.rt,0⟩ now ep true=0
 b2:0<vis→heS S' ⟨X.m.id,X.m.gn,X.m.rt,0⟩ now ep (wi lim 1 8)=0
 b3:hoF (akF S' X.m.id) ⟨X.m.id,X.m.gn,X.m.rt,0⟩ now ep=false
 b4:hoF (gbN S' X.m.id lim) ⟨X.m.id,X.m.gn,X.m.rt,0⟩ now ep=false
 b5:stF (akF S' X.m.id)=stF S' - 1
 b6:stF (gbN S' X.m.id lim)=stF S'
 c1:1≤X.m.gn∧X.m.gn≤65536
 c2:0≤X.m.rt∧X.m.rt≤65535
 c3:1≤stF S'∧stF S'≤24
end
end Go.Proofs.YtdobenkkkkaipaaGreat
/- Plain: what an append onto nil, onto what a call owns leaves. -/
namespace Go.Proofs.YtdobenkkkkaipaaGreat
open Go.RowKit
set_option linter.unusedVariables false
theorem below_nil {W W' : World} {v:Value} (hg:W.grownBy W' v.ownBlock) (hv:v.ownBlock=none):Below W.heap.size W W':=(Below.refl _ _).grown hg (Nat.le_refl _) (fun k hk=>by rw [hv] at hk;cases hk)
theorem below_own {W0 W W' : World} {n size:Nat} {e:TypeId} {v:Value} {xs:List Value} (hb:Below W0.heap.size W0 W) (ho:W.ownsRow W0.heap.size e size v n xs) (hg:W.grownBy W' v.ownBlock):Below W0.heap.size W0 W':=hb.grown hg hb.size (fun k hk=>(ho.lt k hk).1)
end Go.Proofs.YtdobenkkkkaipaaGreat
namespace Go.Proofs.YtdobenkkkkaipaaGreat
open Go.RowKit
set_option linter.unusedVariables false
theorem DlV.of_own {w W:World} {base:Nat} {l:List Du} {v:Value} (ho:W.ownsRow base 133 2 v l.length (dcs l)) (hb:w.heap.size≤base) (hB:Below w.heap.size w W):DlV w l (.returned v) W:=by
 obtain ⟨A',c',rfl⟩:=own_form ho
 exact ⟨A',c',rfl,nwv_of (nwv_own ho hb),Dl.of_own ho,hB⟩
set_option maxHeartbeats 4000000 in
set_option maxRecDepth 20000 in
theorem rswap_any (A:Option Addr) (n c i k:Nat) (l:List Du) (w:World) (hv:Dl w w.heap.size (.slice A n c) l) (hi:i<n) (hk:k<n) (hik:i≠k) (h100:n≤100) :
  Calls Tryz.prog 194 #[.slice A n c,.int .i64 i,.int .i64 k] w (DlV w (swp l i k)):=by
 obtain ⟨rfl,hm1,hm2⟩:=hv.len
 obtain ⟨i0,hi0,hz0⟩:=Option.map_eq_some_iff.1 info_due
 simp only [Prod.mk.injEq] at hz0
 have HI:=Lh hi0
 have HZ:=Lh hz0
 have HRD:=Lh hv.rd
 have HV:=Lh hv
 have hi' : (i:Int)<(l.length:Int):=by omega
 have hk' : (k:Int)<(l.length:Int):=by omega
 obtain ⟨b,o,rfl,hb,c0,c1⟩:=hv.atg hi
 obtain ⟨b',o',e',hb',d0,d1⟩:=hv.atg hk
 injection e' with e'
 injection e' with e1 e2
 subst e1;subst e2
 clear hb' hv hi0 hz0
 obtain ⟨X,hX⟩:∃ X,ge l i=X:=⟨_,rfl⟩
 obtain ⟨Y,hY⟩:∃ Y,ge l k=Y:=⟨_,rfl⟩
 have HX:=Lh hX
 have HY:=Lh hY
 rw [hX] at c0 c1
 rw [hY] at d0 d1
 have HB:=Lh hb
 have HC:=Lh (And.intro (And.intro c0 c1) (And.intro d0 d1))
 clear hX hY c0 c1 d0 d1 hb
 go_enter Tryz.func194,Tryz.ntmps194
 go_wp2_with (at_builtin;refine wpList_append_rd _ rfl (.const (.slice none 0 0)) (.tmp 8) 29 rfl w.heap.size 133 i0 _ 2 16 Tryz.underlying29 HI.out HZ.out.1 HZ.out.2.1 HZ.out.2.2 rfl (by omega) (.slice none 0 0) 0 [] rfl (World.ownsRow_nil _ _ _ _) w.heap.size (some ⟨b,o,none⟩) l.length c (dcs l) rfl HRD.out (dcs_one l) (by unfold maxLen;omega) (by omega) (Nat.le_refl _) ?_;intro v1 w1 hown1 hg1 hat1)
 rw [Nat.zero_add,List.nil_append] at hown1
 have HB1:=Lh (show Below w.heap.size w w1 from (Below.refl w.heap.size w).grown hg1 (Nat.le_refl _) (fun k e=>by simp [Value.ownBlock] at e))
 obtain ⟨q,cap,rfl,hq,hle,hmx,hrow⟩:=own_row hown1 (by omega)
 have HR:=Lh (RwAt.mk (w:=w1) hrow rfl (Below.refl q w1))
 have HQ:=Lh hq
 have HM:=Lh (And.intro hle hmx)
 have hbq:¬(b=q):=by have:=HB.out;omega
 have hqb:¬(q=b):=fun e=>hbq e.symm
 clear hown1 hg1 hat1 hq hle hmx hrow
 obtain ⟨y0,y1,f0,f1,hql⟩:=HR.out.row.at_ hi
 obtain ⟨z0,z1,e0,e1,-⟩:=HR.out.row.at_ hk
 rw [HX.out] at y0 y1
 rw [HY.out] at z0 z1
 have c0:=(HB1.out.cell (p:=⟨b,o+i*2,none⟩) HB.out).trans HC.out.1.1
 have c1:=(HB1.out.cell (p:=⟨b,o+i*2+1,none⟩) HB.out).trans HC.out.1.2
 have d0:=(HB1.out.cell (p:=⟨b,o+k*2,none⟩) HB.out).trans HC.out.2.1
 have d1:=(HB1.out.cell (p:=⟨b,o+k*2+1,none⟩) HB.out).trans HC.out.2.2
 have n1:¬(i=k):=hik
 have n2:¬(k=i):=fun e=>hik e.symm
 go_region
 clear c0 c1 d0 d1 y0 y1 z0 z1 f0 f1 e0 e1 hql
 have HR2:=Lh ((HR.out.swap hi hk).drew)
 rw [HX.out,HY.out] at HR2
 generalize ((((w1.setCell ⟨q,i*2,none⟩ (.int .i64 Y.dl)).setCell ⟨q,i*2+1,none⟩ (.int .i64 Y.id)).setCell ⟨q,k*2,none⟩ (.int .i64 X.dl)).setCell ⟨q,k*2+1,none⟩ (.int .i64 X.id)).drew=w2 at*
 have HF:=Lh (show DlV w (swp l i k) (.returned (.slice (some ⟨q,0,none⟩) l.length cap)) w2 from ⟨some ⟨q,0,none⟩,cap,by rw [swp_len],nw_some HQ.out,by rw [swp_len];exact HR2.out.row.dl' HR2.out.len HM.out.1 HM.out.2,HB1.out.trans (HR2.out.bel.mono HQ.out)⟩)
 go_wp2
 go_ret
 exact HF.out
structure LsAt (w:World) (lo:Nat) (v:Value) (l:List Du) (W:World):Prop where
 dl:Dl W W.heap.size v l
 nw:NwV lo v
 bel:Below w.heap.size w W
theorem LsAt.below {w W W' : World} {lo:Nat} {v:Value} {l:List Du} (h:LsAt w lo v l W) (hb:Below W.heap.size W W'):LsAt w lo v l W':=⟨h.dl.up hb,h.nw,h.bel.trans (hb.mono h.bel.size)⟩
theorem LsAt.drewN {w W:World} {lo:Nat} {v:Value} {l:List Du} (h:LsAt w lo v l W) (k:Nat):LsAt w lo v l (W.drewN k):=⟨h.dl,h.nw,⟨h.bel.os,h.bel.tape,h.bel.output,h.bel.size,h.bel.block⟩⟩
def LvP (w:World) (lo:Nat) (l:List Du) (e:Ending) (w' : World):Prop:=∃ v,e=.returned v∧LsAt w lo v l w'
set_option maxHeartbeats 4000000 in
set_option maxRecDepth 20000 in
theorem rup_any (lo:Nat) (A:Option Addr) (n c i:Nat) (l:List Du) (w:World) (hv:Dl w w.heap.size (.slice A n c) l) (hlo:lo≤w.heap.size) (hnw:Nw lo A) (hi:i<n) (h100:n≤100) :
  Calls Tryz.prog 175 #[.slice A n c,.int .i64 i] w (LvP w lo (upF l i)):=by
 obtain ⟨rfl,hm1,hm2⟩:=hv.len
 have H:=Lh (show LsAt w lo (.slice A l.length c) l w from ⟨hv,nwv_mk hnw,Below.refl _ _⟩)
 have HLO:=Lh hlo
 have hi100:(i:Int)≤100:=by omega
 have HN:=Lh (show l.length≤100 from h100)
 obtain ⟨n,hn⟩:∃ n,n=l.length:=⟨_,rfl⟩
 rw [←hn] at H HN hi ⊢
 have HLN:=Lh hn
 clear hv hm1 hm2 hnw hlo h100 hn
 go_enter Tryz.func175,Tryz.ntmps175
 go_wp2
 go_loopw [0,1] (fun hv iv wr=>∃ (j:Nat) (A' : Option Addr) (c' : Nat) (g:List Du),hv=.slice A' n c'∧iv=.int .i64 j∧j≤i∧g.length=n∧upF g j=upF l i∧LsAt w lo (.slice A' n c') g wr) (fun _ iv _=>(intOf iv).toNat)
 case atStart=>exact ⟨i,A,c,l,rfl,rfl,Nat.le_refl _,HLN.out.symm,rfl,H.out⟩
 case round=>
  obtain ⟨j,A',c',g,rfl,rfl,hji,hgn,hu,hla⟩:=hrel
  have HL:=Lh hla
  have HU:=Lh hu
  have HGN:=Lh hgn
  clear hla hu hgn
  by_cases hj0:0<j
  ·obtain ⟨p,hp⟩:∃ p,p=(j - 1) / 2:=⟨_,rfl⟩
   have HPP:=Lh hp
   have hjn:j<n:=by omega
   have hpn:p<n:=by omega
   have hw1:IntKind.i64.wrap ((j:Int) - 1)=(j:Int) - 1:=IntWalk.i64_in _ (by omega)
   have hq1:((j:Int) - 1).tdiv 2=(p:Int):=by rw [Int.tdiv_eq_ediv_of_nonneg (by omega)];omega
   have hw2:IntKind.i64.wrap (p:Int)=(p:Int):=IntWalk.i64_in _ (by omega)
   clear hp
   obtain ⟨b,o,rfl,hb,c0,c1⟩:=HL.out.dl.atg (k:=j) (by rw [HGN.out];exact hjn)
   obtain ⟨b',o',e',hb',d0,d1⟩:=HL.out.dl.atg (k:=p) (by rw [HGN.out];exact hpn)
   injection e' with e'
   injection e' with e1 e2
   subst e1;subst e2
   clear hb'
   obtain ⟨X,hX⟩:∃ X,ge g j=X:=⟨_,rfl⟩
   obtain ⟨Y,hY⟩:∃ Y,ge g p=Y:=⟨_,rfl⟩
   have HX:=Lh hX
   have HY:=Lh hY
   rw [hX] at c0 c1
   rw [hY] at d0 d1
   clear hX hY
   have HF:=Lh (fun w1=>rbef_any X Y w1)
   have HSA:=Lh (show wr.drew.cell? ⟨b,o+j*2,none⟩=some (.int .i64 X.dl)∧wr.drew.cell? ⟨b,o+j*2+1,none⟩=some (.int .i64 X.id)∧wr.drew.cell? ⟨b,o+p*2,none⟩=some (.int .i64 Y.dl)∧wr.drew.cell? ⟨b,o+p*2+1,none⟩=some (.int .i64 Y.id) from ⟨c0,c1,d0,d1⟩)
   have HSC:=Lh (fun w1 (hb1:Below wr.drew.heap.size wr.drew w1)=>show (w1.cell? ⟨b,o+j*2,none⟩=some (.int .i64 X.dl)∧w1.cell? ⟨b,o+j*2+1,none⟩=some (.int .i64 X.id)∧w1.cell? ⟨b,o+p*2,none⟩=some (.int .i64 Y.dl)∧w1.cell? ⟨b,o+p*2+1,none⟩=some (.int .i64 Y.id))∧LsAt w lo (.slice (some ⟨b,o,none⟩) n c') g w1 from ⟨⟨(hb1.cell (p:=⟨b,o+j*2,none⟩) hb).trans c0,(hb1.cell (p:=⟨b,o+j*2+1,none⟩) hb).trans c1,(hb1.cell (p:=⟨b,o+p*2,none⟩) hb).trans d0,(hb1.cell (p:=⟨b,o+p*2+1,none⟩) hb).trans d1⟩,HL.out.below (drew_bel hb1)⟩)
   have hj0' : (0:Int)<(j:Int):=by omega
   have hjn' : (j:Int)<(n:Int):=by omega
   have hpn' : (p:Int)<(n:Int):=by omega
   have hgd:decide ((0:Int)<(j:Int))=true:=decide_eq_true hj0'
   clear hb
   cases hbf:bef X Y with
   | true=>
    have HSW:=Lh (fun w1 hv=>rswap_any (some ⟨b,o,none⟩) n c' j p g w1 hv hjn hpn (by have:=HPP.out;omega) HN.out)
    have HUU:=Lh (show upF (swp g j p) p=upF l i by
     have hb2:bef (ge g j) (ge g ((j - 1) / 2))=true:=by rw [←HPP.out,HX.out,HY.out];exact hbf
     rw [HPP.out,←HU.out,upF_step hj0 hb2])
    rw [hbf] at HF
    clear hbf
    go_wp2
    go_region_held3 (fun W=>W.cell? ⟨b,o+j*2,none⟩=some (.int .i64 X.dl)∧W.cell? ⟨b,o+j*2+1,none⟩=some (.int .i64 X.id)∧W.cell? ⟨b,o+p*2,none⟩=some (.int .i64 Y.dl)∧W.cell? ⟨b,o+p*2+1,none⟩=some (.int .i64 Y.id))
     (first | with_reducible exact HSA.out | with_reducible exact HSB.out)
     ((go_at_call 164;(with_reducible refine (HF.out _).mono ?_);rintro e w1 ⟨rfl,hb1⟩;obtain ⟨hs,hbb⟩:=HSC.out _ hb1;have HSB:=Lh hs;have HL1:=Lh hbb;clear hb1 hs hbb))
    clear c0 c1 d0 d1
    go_wp2_with fail
    refine (HSW.out _ HL1.out.dl).mono ?_
    rintro e w2 ⟨A2,c2,rfl,hnw2,hl2,hb2⟩
    have hsl:(swp g j p).length=n:=by rw [swp_len];exact HGN.out
    rw [hsl] at hl2 ⊢
    have HL2:=Lh (show LsAt w lo (.slice A2 n c2) (swp g j p) w2 from ⟨hl2,nwv_mk (nw_low hnw2 (Nat.le_trans HLO.out HL1.out.bel.size)),HL1.out.bel.trans (hb2.mono HL1.out.bel.size)⟩)
    have HSL:=Lh hsl
    have HPJ:=Lh (show p<j by have:=HPP.out;omega)
    clear hnw2 hl2 hb2 hsl
    go_wp2
    go_roundw
    case rel=>exact ⟨p,A2,c2,swp g j p,rfl,rfl,by have:=HPJ.out;omega,HSL.out,HUU.out,HL2.out⟩
    case measure=>have:=HPJ.out;simp [intOf];omega
   | false=>
    have HUU:=Lh (show upF l i=g by
     have hb2:bef (ge g j) (ge g ((j - 1) / 2))=false:=by rw [←HPP.out,HX.out,HY.out];exact hbf
     rw [←HU.out,upF_stop hb2])
    rw [hbf] at HF
    clear hbf
    go_wp2
    go_region_held3 (fun W=>W.cell? ⟨b,o+j*2,none⟩=some (.int .i64 X.dl)∧W.cell? ⟨b,o+j*2+1,none⟩=some (.int .i64 X.id)∧W.cell? ⟨b,o+p*2,none⟩=some (.int .i64 Y.dl)∧W.cell? ⟨b,o+p*2+1,none⟩=some (.int .i64 Y.id))
     (first | with_reducible exact HSA.out | with_reducible exact HSB.out)
     ((go_at_call 164;(with_reducible refine (HF.out _).mono ?_);rintro e w1 ⟨rfl,hb1⟩;obtain ⟨hs,hbb⟩:=HSC.out _ hb1;have HSB:=Lh hs;have HL1:=Lh hbb;clear hb1 hs hbb))
    clear c0 c1 d0 d1 hw1 hq1 hw2
    go_wp2
    go_ret
    exact ⟨_,rfl,by rw [HUU.out];exact HL1.out⟩
  ·obtain rfl:j=0:=by omega
   have HUU:=Lh (show upF l i=g by rw [←HU.out,upF_zero])
   go_wp2
   go_quiet (fail)
   go_wp2
   go_ret
   exact ⟨_,rfl,by rw [HUU.out];exact HL.out.drewN _⟩
set_option maxHeartbeats 8000000 in
set_option maxRecDepth 20000 in
theorem rpush5_ok (A:Option Addr) (n c:Nat) (l:List Du) (d:Du) (w:World) (hv:Dl w w.heap.size (.slice A n c) l) (h0:hpuE l d=0) :
  Calls Tryz.prog 142 #[.slice A n c,d.v] w (DlE w (hpu l d) 0):=by
 obtain ⟨rfl,hm1,hm2⟩:=hv.len
 have HB:=Lh ((Below.refl w.heap.size w).alloc (Nat.le_refl _) (.cells #[.int .i64 d.dl,.int .i64 d.id] 133))
 have HV0:=Lh ((hv.alloc (Nat.le_refl _) (.cells #[.int .i64 d.dl,.int .i64 d.id] 133)).more (show w.heap.size≤(w.alloc (.cells #[.int .i64 d.dl,.int .i64 d.id] 133)).heap.size by simp))
 have HD0:=Lh (D2.start w d 133)
 have HV:=Lh hv
 have HVA:=Lh (fun w1 hv=>rvalid5_any A l.length c l w1 hv)
 have HO:=Lh (fun w1=>rsound_any d w1)
 have HF:=Lh (fun w1 (hv:Dl w1 w1.heap.size (.slice A l.length c) l)=>rix5_any A l.length c l d.id w1 _ hv)
 obtain ⟨hva,hsn,hl12,hid⟩:=hpuE_zero h0
 have hix:ixD l d.id = -1:=ixD_neg (fun h=>by obtain ⟨x,hx,e⟩:=(ixD_ge _ _).1 h;exact hid x hx e)
 rw [hva] at HVA
 rw [hsn] at HO
 rw [hix] at HF
 have HUP:=Lh (fun lo g cap w1 hd hlo hn=>rup_any lo (some ⟨g,0,none⟩) (l.length+1) cap l.length (l++[d]) w1 hd hlo hn (by omega) (by omega))
 have HL12:=Lh hl12
 have hl100:(l.length:Int)≤100:=by omega
 have h12' : ((l.length:Int)==12)=false:=by simp;omega
 obtain ⟨i0,hi0,hz0⟩:=Option.map_eq_some_iff.1 info_due
 simp only [Prod.mk.injEq] at hz0
 have HI:=Lh hi0
 have HZ:=Lh hz0
 clear hv hm1 hm2 h0 hva hsn hl12 hid hix hi0 hz0
 go_enter Tryz.func142,Tryz.ntmps142
 go_wp2_with fail
 obtain ⟨p,hp⟩:∃ p,p=w.heap.size:=⟨_,rfl⟩
 have HPP:=Lh hp
 rw [←hp] at HD0 ⊢
 clear hp
 refine (HVA.out _ HV0.out).mono ?_
 rintro e w1 ⟨rfl,hb⟩
 have HB1:=Lh (HB.out.trans (hb.mono HB.out.size))
 have HD1:=Lh (HD0.out.below hb (by have:=HPP.out;simp;omega))
 obtain ⟨c0,c1⟩:=HD1.out
 have HPL:=Lh (World.block_lt_of_cell? w1 ⟨p,0,none⟩ c0)
 clear hb
 go_wp2_with fail
 refine (HO.out _).mono ?_
 rintro e w2 ⟨rfl,hb⟩
 have HB2:=Lh (HB1.out.trans (hb.mono HB1.out.size))
 have HD2:=Lh (HD1.out.below hb HPL.out)
 have HPL2:=Lh (Nat.lt_of_lt_of_le HPL.out hb.size)
 clear hb c0 c1
 obtain ⟨c0,c1⟩:=HD2.out
 go_wp2_with fail
 refine (HF.out _ (HV.out.up HB2.out)).mono ?_
 rintro e w3 ⟨rfl,rfl⟩
 have HS0:=Lh (show D2 w2.drew p d from HD2.out)
 have HS1:=Lh (HD2.out.below (W':=(w2.alloc (.cells #[.int .i64 d.dl,.int .i64 d.id] 133)).drew) (((Below.refl w2.heap.size w2).alloc (Nat.le_refl _) _).drew) HPL2.out)
 have HA0:=Lh (show Rd w2.drew w2.drew.heap.size 2 A l.length (dcs l) from (HV.out.up HB2.out.drew).rd)
 have HA1:=Lh (show Rd (w2.alloc (.cells #[.int .i64 d.dl,.int .i64 d.id] 133)).drew (w2.alloc (.cells #[.int .i64 d.dl,.int .i64 d.id] 133)).drew.heap.size 2 A l.length (dcs l) from (HV.out.up ((HB2.out.alloc HB2.out.size _).drew)).rd)
 have HP0:=Lh (fun w3 v (ho:w3.ownsRow w2.drew.heap.size 133 2 v (0+l.length) ([]++dcs l)) (hg:w2.drew.grownBy w3 (Value.ownBlock (.slice none 0 0)))=>push_pre0 (w:=w) (w1:=w2) (w2:=w3) (l:=l) (d:=d) (p:=p) (v:=v) HB2.out HPL2.out HS0.out (by rw [Nat.zero_add,List.nil_append] at ho;exact ho) ((Below.refl _ w2.drew).grown hg (Nat.le_refl _) (fun k e=>by simp [Value.ownBlock] at e)))
 have HP1:=Lh (fun w3 v (ho:w3.ownsRow (w2.alloc (.cells #[.int .i64 d.dl,.int .i64 d.id] 133)).drew.heap.size 133 2 v (0+l.length) ([]++dcs l)) (hg:(w2.alloc (.cells #[.int .i64 d.dl,.int .i64 d.id] 133)).drew.grownBy w3 (Value.ownBlock (.slice none 0 0)))=>push_pre1 (w:=w) (w1:=w2) (w2:=w3) (l:=l) (d:=d) (p:=p) (v:=v) HB2.out HPL2.out HS1.out (by rw [Nat.zero_add,List.nil_append] at ho;exact ho) ((Below.refl _ _).grown hg (Nat.le_refl _) (fun k e=>by simp [Value.ownBlock] at e)))
 have hgd:¬((0:Int) ≤ -1):=by decide
 go_wp2_with fail
 go_region_held3 (fun W=>W.cell? ⟨p,0,none⟩=some (.int .i64 d.dl)∧W.cell? ⟨p,1,none⟩=some (.int .i64 d.id))
  (first | with_reducible exact HS0.out | with_reducible exact HS1.out | with_reducible exact HS2.out | with_reducible exact HS3.out | with_reducible exact HS4.out | with_reducible exact HS5.out)
  (first
  | (refine step_append_lies _ (by rfl) _ _ _ (by rfl) w2.heap.size 133 i0 _ 2 16 Tryz.underlying29 HI.out HZ.out.1 HZ.out.2.1 HZ.out.2.2 rfl (by omega) v4 l.length (dcs l) (by rfl) HOW.out ⟨w4.heap.size,0,none⟩ 1 1 d.l (by rfl) (by simp [Du.l_len]) HN.out (du_one d) (by omega) (by have:=HL12.out;unfold maxLen;omega) (by have:=HL12.out;omega) HBS.out _ rfl ?_;intro g1 cap1 w5 hown1 hgrow1 hat1 hlt1;have HFN:=Lh (push_end HBF.out HOW.out HB2.out.size hown1 hgrow1);have HS4:=Lh (HS3.out.grown HOW.out HPL2.out HBS.out hgrow1);have HDL:=Lh (HFN.out.1.dl' (by simp) HFN.out.2.2.1 HFN.out.2.2.2.1);clear hown1 hgrow1 hat1 hlt1)
  | (refine step_append_lies _ (by rfl) _ _ _ (by rfl) w2.heap.size 133 i0 _ 2 16 Tryz.underlying29 HI.out HZ.out.1 HZ.out.2.1 HZ.out.2.2 rfl (by omega) v4 l.length (dcs l) (by rfl) HOW.out ⟨w2.heap.size,0,none⟩ 1 1 d.l (by rfl) (by simp [Du.l_len]) HN.out (du_one d) (by omega) (by have:=HL12.out;unfold maxLen;omega) (by have:=HL12.out;omega) HBS.out _ rfl ?_;intro g1 cap1 w5 hown1 hgrow1 hat1 hlt1;have HFN:=Lh (push_end HBF.out HOW.out HB2.out.size hown1 hgrow1);have HS4:=Lh (HS3.out.grown HOW.out HPL2.out HBS.out hgrow1);have HDL:=Lh (HFN.out.1.dl' (by simp) HFN.out.2.2.1 HFN.out.2.2.2.1);clear hown1 hgrow1 hat1 hlt1)
  | (refine step_append_rd _ (by rfl) _ _ _ (by rfl) _ 133 i0 _ 2 16 Tryz.underlying29 HI.out HZ.out.1 HZ.out.2.1 HZ.out.2.2 rfl (by omega) (.slice none 0 0) 0 [] (by rfl) (World.ownsRow_nil _ _ _ _) _ A l.length c (dcs l) (by rfl) HA0.out (dcs_one l) (by have:=HL12.out;unfold maxLen;omega) (by have:=HL12.out;omega) (Nat.le_refl _) ?_;intro v4 w4 hown4 hgrow4 hat4;obtain ⟨hs2,hs3,ho3,hbs,hbf,hn⟩:=HP0.out _ _ hown4 hgrow4;have HS2:=Lh hs2;have HS3:=Lh hs3;have HOW:=Lh ho3;have HBS:=Lh hbs;have HBF:=Lh hbf;have HN:=Lh hn;clear hown4 hgrow4 hat4 hs2 hs3 ho3 hbs hbf hn)
  | (refine step_append_rd _ (by rfl) _ _ _ (by rfl) _ 133 i0 _ 2 16 Tryz.underlying29 HI.out HZ.out.1 HZ.out.2.1 HZ.out.2.2 rfl (by omega) (.slice none 0 0) 0 [] (by rfl) (World.ownsRow_nil _ _ _ _) _ A l.length c (dcs l) (by rfl) HA1.out (dcs_one l) (by have:=HL12.out;unfold maxLen;omega) (by have:=HL12.out;omega) (Nat.le_refl _) ?_;intro v4 w4 hown4 hgrow4 hat4;obtain ⟨hs3,ho3,hbs,hbf,hn⟩:=HP1.out _ _ hown4 hgrow4;have HS3:=Lh hs3;have HOW:=Lh ho3;have HBS:=Lh hbs;have HBF:=Lh hbf;have HN:=Lh hn;clear hown4 hgrow4 hat4 hs3 ho3 hbs hbf hn)
  | (go_at_call 175;(with_reducible refine (HUP.out w.heap.size g1 cap1 w5 HDL.out HFN.out.2.2.2.2.size (nw_some HFN.out.2.1)).mono ?_);rintro e w6 ⟨v6,rfl,hla⟩;have HLA:=Lh hla;have HS5:=Lh (HS4.out.below hla.bel (World.block_lt_of_cell? w5 ⟨p,0,none⟩ HS4.out.1));clear hla))
 all_goals
  obtain ⟨A6,c6,hv6,_,_⟩:=HLA.out.dl.form
  subst hv6
  have HNW:=Lh (nwv_of HLA.out.nw)
  have HD6:=Lh HLA.out.dl
  have HB6:=Lh (HFN.out.2.2.2.2.trans (HLA.out.bel.mono HFN.out.2.2.2.2.size))
  have hpf:upF (l++[d]) l.length=hpu l d:=rfl
  rw [hpf] at HD6 ⊢
  clear hpf
  go_wp2
  exact bodyPost_ret (v:=.tuple #[.slice A6 (hpu l d).length c6,.int .i64 0]) (by simp only [results,Tryz.results142];go_simp <;> rfl) rfl ⟨A6,c6,rfl,HNW.out,HD6.out,HB6.out⟩
set_option maxHeartbeats 4000000 in
theorem rpush5_any (A:Option Addr) (n c:Nat) (l:List Du) (d:Du) (w:World) (hv:Dl w w.heap.size (.slice A n c) l) :
  Calls Tryz.prog 142 #[.slice A n c,d.v] w (DlE w (puR l d) (hpuE l d)):=by
 by_cases h00:hpuE l d=0
 ·rw [h00,show puR l d=hpu l d from if_pos h00]
  exact rpush5_ok A n c l d w hv h00
 ·have HC:=Lh (show puR l d=[] from if_neg h00)
  obtain ⟨rfl,hm1,hm2⟩:=hv.len
  have HB:=Lh ((Below.refl w.heap.size w).alloc (Nat.le_refl _) (.cells #[.int .i64 d.dl,.int .i64 d.id] 133))
  have HV0:=Lh ((hv.alloc (Nat.le_refl _) (.cells #[.int .i64 d.dl,.int .i64 d.id] 133)).more (show w.heap.size≤(w.alloc (.cells #[.int .i64 d.dl,.int .i64 d.id] 133)).heap.size by simp))
  have HD0:=Lh (D2.start w d 133)
  have HV:=Lh hv
  have HVA:=Lh (fun w1 hv=>rvalid5_any A l.length c l w1 hv)
  have HO:=Lh (fun w1=>rsound_any d w1)
  have HF:=Lh (fun w1 (hv:Dl w1 w1.heap.size (.slice A l.length c) l)=>rix5_any A l.length c l d.id w1 _ hv)
  clear hv hm1 hm2
  by_cases h0:vaF l=0
  ·rw [h0] at HVA
   have hl:=(vaF_zero h0).1
   have hpu:hpuE l d=if snd d=false then 1 else if l.length=12 then 3 else if 0≤ixD l d.id then 10 else 0:=by
    unfold hpuE;rw [if_neg (by simpa using h0)]
   clear h0
   cases hs:snd d with
   | false=>
    have hR:hpuE l d=1:=by rw [hpu,if_pos hs]
    rw [hs] at HO
    rw [hR]
    clear hpu hs hR h00
    go_enter Tryz.func142,Tryz.ntmps142
    go_wp2_with fail
    refine (HVA.out _ HV0.out).mono ?_
    rintro e w1 ⟨rfl,hb⟩
    have HB1:=Lh (HB.out.trans (hb.mono HB.out.size))
    obtain ⟨c0,c1⟩:=HD0.out.below hb (by simp)
    clear hb
    go_wp2_with fail
    refine (HO.out _).mono ?_
    rintro e w2 ⟨rfl,hb⟩
    have HB2:=Lh (HB1.out.trans (hb.mono HB1.out.size))
    clear hb c0 c1
    go_wp2
    exact bodyPost_ret (v:=.tuple #[.slice none 0 0,.int .i64 1]) (by simp only [results,Tryz.results142];go_simp <;> rfl) rfl ⟨none,0,by rw [HC.out];rfl,nw_none,by rw [HC.out];exact Dl.nil,HB2.out⟩
   | true=>
    rw [hs] at HO
    by_cases h12:l.length=12
    ·have hR:hpuE l d=3:=by rw [hpu,if_neg (by simp [hs]),if_pos h12]
     have h12' : ((l.length:Int)==12)=true:=by simp;omega
     rw [hR]
     clear hpu hs hR h00 h12
     go_enter Tryz.func142,Tryz.ntmps142
     go_wp2_with fail
     refine (HVA.out _ HV0.out).mono ?_
     rintro e w1 ⟨rfl,hb⟩
     have HB1:=Lh (HB.out.trans (hb.mono HB.out.size))
     obtain ⟨c0,c1⟩:=HD0.out.below hb (by simp)
     clear hb
     go_wp2_with fail
     refine (HO.out _).mono ?_
     rintro e w2 ⟨rfl,hb⟩
     have HB2:=Lh (HB1.out.trans (hb.mono HB1.out.size))
     clear hb c0 c1
     go_wp2
     exact bodyPost_ret (v:=.tuple #[.slice none 0 0,.int .i64 3]) (by simp only [results,Tryz.results142];go_simp <;> rfl) rfl ⟨none,0,by rw [HC.out];rfl,nw_none,by rw [HC.out];exact Dl.nil,HB2.out⟩
    ·have h12' : ((l.length:Int)==12)=false:=by simp;omega
     have hge:0≤ixD l d.id:=Decidable.byContradiction fun hx=>h00 (by rw [hpu,if_neg (by simp [hs]),if_neg h12,if_neg hx])
     have hR:hpuE l d=10:=by rw [hpu,if_neg (by simp [hs]),if_neg h12,if_pos hge]
     rw [hR]
     clear hpu hs hR h00 h12
     generalize ixD l d.id=r at*
     go_enter Tryz.func142,Tryz.ntmps142
     go_wp2_with fail
     refine (HVA.out _ HV0.out).mono ?_
     rintro e w1 ⟨rfl,hb⟩
     have HB1:=Lh (HB.out.trans (hb.mono HB.out.size))
     have HD1:=Lh (HD0.out.below hb (by simp))
     obtain ⟨c0,c1⟩:=HD1.out
     have HPL:=Lh (World.block_lt_of_cell? w1 ⟨w.heap.size,0,none⟩ c0)
     clear hb
     go_wp2_with fail
     refine (HO.out _).mono ?_
     rintro e w2 ⟨rfl,hb⟩
     have HB2:=Lh (HB1.out.trans (hb.mono HB1.out.size))
     clear c0 c1
     obtain ⟨c0,c1⟩:=HD1.out.below hb HPL.out
     clear hb
     go_wp2_with fail
     refine (HF.out _ (HV.out.up HB2.out)).mono ?_
     rintro e w3 ⟨rfl,rfl⟩
     clear c0 c1
     go_wp2
     exact bodyPost_ret (v:=.tuple #[.slice none 0 0,.int .i64 10]) (by simp only [results,Tryz.results142];go_simp <;> rfl) rfl ⟨none,0,by rw [HC.out];rfl,nw_none,by rw [HC.out];exact Dl.nil,HB2.out⟩
  ·have hR:hpuE l d=vaF l:=by unfold hpuE;rw [if_pos h0]
   have hne:(vaF l != 0)=true:=bne_iff_ne.2 h0
   rw [hR]
   generalize vaF l=x at*
   clear h0 hR h00
   go_enter Tryz.func142,Tryz.ntmps142
   go_wp2_with fail
   refine (HVA.out _ HV0.out).mono ?_
   rintro e w1 ⟨rfl,hb⟩
   have HB1:=Lh (HB.out.trans (hb.mono HB.out.size))
   clear hb
   go_wp2
   exact bodyPost_ret (v:=.tuple #[.slice none 0 0,.int .i64 x]) (by simp only [results,Tryz.results142];go_simp <;> rfl) rfl ⟨none,0,by rw [HC.out];rfl,nw_none,by rw [HC.out];exact Dl.nil,HB1.out⟩
end Go.Proofs.YtdobenkkkkaipaaGreat
