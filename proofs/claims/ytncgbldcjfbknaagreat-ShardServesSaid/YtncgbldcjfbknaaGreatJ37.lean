/- What is proved here: shardqueueref05.down by a contract; shardqueueref05.cut by a contract; shardqueueref05.Remove by a contract; shardqueueref06.Release by a contract; ref07.Ack by a contract. -/
import Derived.Test.YtncgbldcjfbknaaGreatJ36
namespace Go.Proofs.YtncgbldcjfbknaaGreat
open Go.RowKit
set_option linter.unusedVariables false
set_option maxHeartbeats 4000000 in
set_option maxRecDepth 20000 in
theorem rdown_any (lo:Nat) (A:Option Addr) (n c i:Nat) (l:List Du) (w:World) (hv:Dl w w.heap.size (.slice A n c) l) (hlo:lo≤w.heap.size) (hnw:Nw lo A) (hi:i<n) (h100:n≤100) :
  Calls Tryz.prog 220 #[.slice A n c,.int .i64 i] w (LvP w lo (dnF l i)):=by
 obtain ⟨rfl,hm1,hm2⟩:=hv.len
 have H:=Lh (show LsAt w lo (.slice A l.length c) l w from ⟨hv,nwv_mk hnw,Below.refl _ _⟩)
 have HLO:=Lh hlo
 have hi100:(i:Int)≤100:=by omega
 have HN:=Lh (show l.length≤100 from h100)
 obtain ⟨n,hn⟩:∃ n,n=l.length:=⟨_,rfl⟩
 rw [←hn] at H HN hi ⊢
 have HLN:=Lh hn
 have hn100:(n:Int)≤100:=by have:=HN.out;omega
 clear hv hm1 hm2 hnw hlo h100 hn
 go_enter Tryz.func220,Tryz.ntmps220
 go_wp2
 go_loopw [0,1] (fun hv iv wr=>∃ (j:Nat) (A' : Option Addr) (c' : Nat) (g:List Du),hv=.slice A' n c'∧iv=.int .i64 j∧j<n∧g.length=n∧dnF g j=dnF l i∧LsAt w lo (.slice A' n c') g wr) (fun _ iv _=>n - (intOf iv).toNat)
 case atStart=>exact ⟨i,A,c,l,rfl,rfl,hi,HLN.out.symm,rfl,H.out⟩
 case round=>
  obtain ⟨j,A',c',g,rfl,rfl,hjn,hgn,hu,hla⟩:=hrel
  have HL:=Lh hla
  have HU:=Lh hu
  have HGN:=Lh hgn
  clear hla hu hgn
  by_cases hl:2*j+1<n
  ·have hl' : 2*(j:Int)+1<(n:Int):=by omega
   obtain ⟨kk,hkk⟩:∃ kk,kk=decide (2*j+2<n∧bef (ge g (2*j+2)) (ge g (2*j+1))=true):=⟨_,rfl⟩
   go_wp2
   go_cut [31] (fun s31 wx=>s31=.bool kk∧LsAt w lo (.slice A' n c') g wx)
   case first=>
    by_cases h2:2*j+2<n
    ·have HKK:=Lh (show kk=bef (ge g (2*j+2)) (ge g (2*j+1)) by rw [hkk];simp [h2])
     obtain ⟨b,o,rfl,hbl,c0,c1⟩:=HL.out.dl.atg (k:=2*j+2) (by rw [HGN.out];omega)
     obtain ⟨b',o',e',hb',d0,d1⟩:=HL.out.dl.atg (k:=(2*j+1)) (by rw [HGN.out];omega)
     injection e' with e'
     injection e' with e1 e2
     subst e1;subst e2
     clear hb'
     obtain ⟨X,hX⟩:∃ X,ge g (2*j+2)=X:=⟨_,rfl⟩
     obtain ⟨Y,hY⟩:∃ Y,ge g ((2*j+1))=Y:=⟨_,rfl⟩
     have HX:=Lh hX
     have HY:=Lh hY
     rw [hX] at c0 c1
     rw [hY] at d0 d1
     clear hX hY
     have HF:=Lh (fun w1=>rbef_any X Y w1)
     have HSA:=Lh (show wr.drew.cell? ⟨b,o+(2*j+2)*2,none⟩=some (.int .i64 X.dl)∧wr.drew.cell? ⟨b,o+(2*j+2)*2+1,none⟩=some (.int .i64 X.id)∧wr.drew.cell? ⟨b,o+(2*j+1)*2,none⟩=some (.int .i64 Y.dl)∧wr.drew.cell? ⟨b,o+(2*j+1)*2+1,none⟩=some (.int .i64 Y.id) from ⟨c0,c1,d0,d1⟩)
     have HSC:=Lh (fun w1 (hb1:Below wr.drew.heap.size wr.drew w1)=>show (w1.cell? ⟨b,o+(2*j+2)*2,none⟩=some (.int .i64 X.dl)∧w1.cell? ⟨b,o+(2*j+2)*2+1,none⟩=some (.int .i64 X.id)∧w1.cell? ⟨b,o+(2*j+1)*2,none⟩=some (.int .i64 Y.dl)∧w1.cell? ⟨b,o+(2*j+1)*2+1,none⟩=some (.int .i64 Y.id))∧LsAt w lo (.slice (some ⟨b,o,none⟩) n c') g w1 from ⟨⟨(hb1.cell (p:=⟨b,o+(2*j+2)*2,none⟩) hbl).trans c0,(hb1.cell (p:=⟨b,o+(2*j+2)*2+1,none⟩) hbl).trans c1,(hb1.cell (p:=⟨b,o+(2*j+1)*2,none⟩) hbl).trans d0,(hb1.cell (p:=⟨b,o+(2*j+1)*2+1,none⟩) hbl).trans d1⟩,HL.out.below (drew_bel hb1)⟩)
     clear hbl
     rw [HX.out,HY.out] at HKK
     rw [←HKK.out] at HF
     clear hkk
     have h2' : 2*(j:Int)+1+1<(n:Int):=by omega
     have h2d:decide (2*(j:Int)+1+1<(n:Int))=true:=by simpa using h2'
     have hw1:IntKind.i64.wrap (2*(j:Int)+1+1)=2*(j:Int)+1+1:=IntWalk.i64_in _ (by omega)
     have hn1:(0:Int)≤2*(j:Int)+1+1:=by omega
     have ht1:(2*(j:Int)+1+1).toNat=2*j+2:=by omega
     have hn0:(0:Int)≤2*(j:Int)+1:=by omega
     have ht0:(2*(j:Int)+1).toNat=2*j+1:=by omega
     go_region_held3 (fun W=>W.cell? ⟨b,o+(2*j+2)*2,none⟩=some (.int .i64 X.dl)∧W.cell? ⟨b,o+(2*j+2)*2+1,none⟩=some (.int .i64 X.id)∧W.cell? ⟨b,o+(2*j+1)*2,none⟩=some (.int .i64 Y.dl)∧W.cell? ⟨b,o+(2*j+1)*2+1,none⟩=some (.int .i64 Y.id))
      (first | with_reducible exact HSA.out | with_reducible exact HSB.out)
      ((go_at_call 168;(with_reducible refine (HF.out _).mono ?_);rintro e w1 ⟨rfl,hb1⟩;obtain ⟨hs,hbb⟩:=HSC.out _ hb1;have HSB:=Lh hs;have HL1:=Lh hbb;clear hb1 hs hbb))
     go_wp2_with fail
     go_meet
     exact ⟨rfl,HL1.out⟩
    ·have HKK:=Lh (show kk=false by rw [hkk];simp [h2])
     have h2d:decide (2*(j:Int)+1+1<(n:Int))=false:=by simp;omega
     clear hkk h2
     have hw1:IntKind.i64.wrap (2*(j:Int)+1+1)=2*(j:Int)+1+1:=IntWalk.i64_in _ (by omega)
     go_quiet (fail)
     go_wp2_with fail
     go_meet
     exact ⟨by rw [HKK.out],HL.out.drewN _⟩
   case rest=>
    obtain ⟨rfl,hrc⟩:=hcut
    have HLC:=Lh hrc
    clear hrc
    cases kk with
    | true=>
     have hk2:=of_decide_eq_true hkk.symm
     have HCH:=Lh (chF_two (h:=g) (i:=j) (by rw [HGN.out];exact hk2.1) hk2.2)
     have hcl:=hk2.1
     clear hkk hk2
     have HCL:=Lh (show 2*j+2<n by omega)
     obtain ⟨b,o,rfl,hbl,c0,c1⟩:=HLC.out.dl.atg (k:=2*j+2) (by rw [HGN.out];omega)
     obtain ⟨b',o',e',hb',d0,d1⟩:=HLC.out.dl.atg (k:=j) (by rw [HGN.out];omega)
     injection e' with e'
     injection e' with e1 e2
     subst e1;subst e2
     clear hb'
     obtain ⟨X,hX⟩:∃ X,ge g (2*j+2)=X:=⟨_,rfl⟩
     obtain ⟨Y,hY⟩:∃ Y,ge g (j)=Y:=⟨_,rfl⟩
     have HX:=Lh hX
     have HY:=Lh hY
     rw [hX] at c0 c1
     rw [hY] at d0 d1
     clear hX hY
     have HF:=Lh (fun w1=>rbef_any X Y w1)
     have HSA:=Lh (show wc.drew.cell? ⟨b,o+(2*j+2)*2,none⟩=some (.int .i64 X.dl)∧wc.drew.cell? ⟨b,o+(2*j+2)*2+1,none⟩=some (.int .i64 X.id)∧wc.drew.cell? ⟨b,o+j*2,none⟩=some (.int .i64 Y.dl)∧wc.drew.cell? ⟨b,o+j*2+1,none⟩=some (.int .i64 Y.id) from ⟨c0,c1,d0,d1⟩)
     have HSC:=Lh (fun w1 (hb1:Below wc.drew.heap.size wc.drew w1)=>show (w1.cell? ⟨b,o+(2*j+2)*2,none⟩=some (.int .i64 X.dl)∧w1.cell? ⟨b,o+(2*j+2)*2+1,none⟩=some (.int .i64 X.id)∧w1.cell? ⟨b,o+j*2,none⟩=some (.int .i64 Y.dl)∧w1.cell? ⟨b,o+j*2+1,none⟩=some (.int .i64 Y.id))∧LsAt w lo (.slice (some ⟨b,o,none⟩) n c') g w1 from ⟨⟨(hb1.cell (p:=⟨b,o+(2*j+2)*2,none⟩) hbl).trans c0,(hb1.cell (p:=⟨b,o+(2*j+2)*2+1,none⟩) hbl).trans c1,(hb1.cell (p:=⟨b,o+j*2,none⟩) hbl).trans d0,(hb1.cell (p:=⟨b,o+j*2+1,none⟩) hbl).trans d1⟩,HLC.out.below (drew_bel hb1)⟩)
     clear hbl
     have hjn' : (j:Int)<(n:Int):=by omega
     cases hbf:bef X Y with
     | true=>
      have HBB:=Lh (show bef (ge g (2*j+2)) (ge g j)=true by rw [HX.out,HY.out];exact hbf)
      have HSW:=Lh (fun w1 hv=>rswap_any (some ⟨b,o,none⟩) n c' j (2*j+2) g w1 hv hjn HCL.out (by omega) HN.out)
      rw [hbf] at HF
      clear hbf
      go_wp2
      have hcn:2*(j:Int)+1+1<(n:Int):=by omega
      have hn1:(0:Int)≤2*(j:Int)+1+1:=by omega
      have ht1:(2*(j:Int)+1+1).toNat=2*j+2:=by omega
      go_region_held3 (fun W=>W.cell? ⟨b,o+(2*j+2)*2,none⟩=some (.int .i64 X.dl)∧W.cell? ⟨b,o+(2*j+2)*2+1,none⟩=some (.int .i64 X.id)∧W.cell? ⟨b,o+j*2,none⟩=some (.int .i64 Y.dl)∧W.cell? ⟨b,o+j*2+1,none⟩=some (.int .i64 Y.id))
       (first | with_reducible exact HSA.out | with_reducible exact HSB.out)
       ((go_at_call 168;(with_reducible refine (HF.out _).mono ?_);rintro e w1 ⟨rfl,hb1⟩;obtain ⟨hs,hbb⟩:=HSC.out _ hb1;have HSB:=Lh hs;have HL1:=Lh hbb;clear hb1 hs hbb))
      clear c0 c1 d0 d1
      have HUU:=Lh (show dnF (swp g j (2*j+2)) (2*j+2)=dnF l i by
       rw [←HU.out,dnF_step (by rw [HGN.out];exact hl) HCH.out HBB.out])
      go_wp2_with fail
      refine (HSW.out _ HL1.out.dl).mono ?_
      rintro e w2 ⟨A2,c2,rfl,hnw2,hl2,hb2⟩
      have hsl:(swp g j (2*j+2)).length=n:=by rw [swp_len];exact HGN.out
      rw [hsl] at hl2 ⊢
      have HL2:=Lh (show LsAt w lo (.slice A2 n c2) (swp g j (2*j+2)) w2 from ⟨hl2,nwv_mk (nw_low hnw2 (Nat.le_trans HLO.out HL1.out.bel.size)),HL1.out.bel.trans (hb2.mono HL1.out.bel.size)⟩)
      have HSL:=Lh hsl
      clear hnw2 hl2 hb2 hsl
      go_wp2
      go_roundw
      case rel=>exact ⟨2*j+2,A2,c2,swp g j (2*j+2),rfl,by go_num,HCL.out,HSL.out,HUU.out,HL2.out⟩
      case measure=>have:=HCL.out;simp [intOf];omega
     | false=>
      have HUU:=Lh (show dnF l i=g by rw [←HU.out,dnF_stop HCH.out (by rw [HX.out,HY.out];exact hbf)])
      rw [hbf] at HF
      clear hbf
      go_wp2
      have hcn:2*(j:Int)+1+1<(n:Int):=by omega
      have hn1:(0:Int)≤2*(j:Int)+1+1:=by omega
      have ht1:(2*(j:Int)+1+1).toNat=2*j+2:=by omega
      go_region_held3 (fun W=>W.cell? ⟨b,o+(2*j+2)*2,none⟩=some (.int .i64 X.dl)∧W.cell? ⟨b,o+(2*j+2)*2+1,none⟩=some (.int .i64 X.id)∧W.cell? ⟨b,o+j*2,none⟩=some (.int .i64 Y.dl)∧W.cell? ⟨b,o+j*2+1,none⟩=some (.int .i64 Y.id))
       (first | with_reducible exact HSA.out | with_reducible exact HSB.out)
       ((go_at_call 168;(with_reducible refine (HF.out _).mono ?_);rintro e w1 ⟨rfl,hb1⟩;obtain ⟨hs,hbb⟩:=HSC.out _ hb1;have HSB:=Lh hs;have HL1:=Lh hbb;clear hb1 hs hbb))
      clear c0 c1 d0 d1
      go_wp2
      go_ret
      exact ⟨_,rfl,by rw [HUU.out];exact HL1.out⟩
    | false=>
     have hk2:=of_decide_eq_false hkk.symm
     have HCH:=Lh (chF_one (h:=g) (i:=j) (by rw [HGN.out];exact hk2))
     clear hkk hk2
     have HCL:=Lh (show 2*j+1<n by omega)
     obtain ⟨b,o,rfl,hbl,c0,c1⟩:=HLC.out.dl.atg (k:=2*j+1) (by rw [HGN.out];omega)
     obtain ⟨b',o',e',hb',d0,d1⟩:=HLC.out.dl.atg (k:=j) (by rw [HGN.out];omega)
     injection e' with e'
     injection e' with e1 e2
     subst e1;subst e2
     clear hb'
     obtain ⟨X,hX⟩:∃ X,ge g (2*j+1)=X:=⟨_,rfl⟩
     obtain ⟨Y,hY⟩:∃ Y,ge g (j)=Y:=⟨_,rfl⟩
     have HX:=Lh hX
     have HY:=Lh hY
     rw [hX] at c0 c1
     rw [hY] at d0 d1
     clear hX hY
     have HF:=Lh (fun w1=>rbef_any X Y w1)
     have HSA:=Lh (show wc.drew.cell? ⟨b,o+(2*j+1)*2,none⟩=some (.int .i64 X.dl)∧wc.drew.cell? ⟨b,o+(2*j+1)*2+1,none⟩=some (.int .i64 X.id)∧wc.drew.cell? ⟨b,o+j*2,none⟩=some (.int .i64 Y.dl)∧wc.drew.cell? ⟨b,o+j*2+1,none⟩=some (.int .i64 Y.id) from ⟨c0,c1,d0,d1⟩)
     have HSC:=Lh (fun w1 (hb1:Below wc.drew.heap.size wc.drew w1)=>show (w1.cell? ⟨b,o+(2*j+1)*2,none⟩=some (.int .i64 X.dl)∧w1.cell? ⟨b,o+(2*j+1)*2+1,none⟩=some (.int .i64 X.id)∧w1.cell? ⟨b,o+j*2,none⟩=some (.int .i64 Y.dl)∧w1.cell? ⟨b,o+j*2+1,none⟩=some (.int .i64 Y.id))∧LsAt w lo (.slice (some ⟨b,o,none⟩) n c') g w1 from ⟨⟨(hb1.cell (p:=⟨b,o+(2*j+1)*2,none⟩) hbl).trans c0,(hb1.cell (p:=⟨b,o+(2*j+1)*2+1,none⟩) hbl).trans c1,(hb1.cell (p:=⟨b,o+j*2,none⟩) hbl).trans d0,(hb1.cell (p:=⟨b,o+j*2+1,none⟩) hbl).trans d1⟩,HLC.out.below (drew_bel hb1)⟩)
     clear hbl
     have hjn' : (j:Int)<(n:Int):=by omega
     cases hbf:bef X Y with
     | true=>
      have HBB:=Lh (show bef (ge g (2*j+1)) (ge g j)=true by rw [HX.out,HY.out];exact hbf)
      have HSW:=Lh (fun w1 hv=>rswap_any (some ⟨b,o,none⟩) n c' j (2*j+1) g w1 hv hjn HCL.out (by omega) HN.out)
      rw [hbf] at HF
      clear hbf
      go_wp2
      have hn0:(0:Int)≤2*(j:Int)+1:=by omega
      have ht0:(2*(j:Int)+1).toNat=2*j+1:=by omega
      go_region_held3 (fun W=>W.cell? ⟨b,o+(2*j+1)*2,none⟩=some (.int .i64 X.dl)∧W.cell? ⟨b,o+(2*j+1)*2+1,none⟩=some (.int .i64 X.id)∧W.cell? ⟨b,o+j*2,none⟩=some (.int .i64 Y.dl)∧W.cell? ⟨b,o+j*2+1,none⟩=some (.int .i64 Y.id))
       (first | with_reducible exact HSA.out | with_reducible exact HSB.out)
       ((go_at_call 168;(with_reducible refine (HF.out _).mono ?_);rintro e w1 ⟨rfl,hb1⟩;obtain ⟨hs,hbb⟩:=HSC.out _ hb1;have HSB:=Lh hs;have HL1:=Lh hbb;clear hb1 hs hbb))
      clear c0 c1 d0 d1
      have HUU:=Lh (show dnF (swp g j (2*j+1)) (2*j+1)=dnF l i by
       rw [←HU.out,dnF_step (by rw [HGN.out];exact hl) HCH.out HBB.out])
      go_wp2_with fail
      refine (HSW.out _ HL1.out.dl).mono ?_
      rintro e w2 ⟨A2,c2,rfl,hnw2,hl2,hb2⟩
      have hsl:(swp g j (2*j+1)).length=n:=by rw [swp_len];exact HGN.out
      rw [hsl] at hl2 ⊢
      have HL2:=Lh (show LsAt w lo (.slice A2 n c2) (swp g j (2*j+1)) w2 from ⟨hl2,nwv_mk (nw_low hnw2 (Nat.le_trans HLO.out HL1.out.bel.size)),HL1.out.bel.trans (hb2.mono HL1.out.bel.size)⟩)
      have HSL:=Lh hsl
      clear hnw2 hl2 hb2 hsl
      go_wp2
      go_roundw
      case rel=>exact ⟨2*j+1,A2,c2,swp g j (2*j+1),rfl,by go_num,HCL.out,HSL.out,HUU.out,HL2.out⟩
      case measure=>have:=HCL.out;simp [intOf];omega
     | false=>
      have HUU:=Lh (show dnF l i=g by rw [←HU.out,dnF_stop HCH.out (by rw [HX.out,HY.out];exact hbf)])
      rw [hbf] at HF
      clear hbf
      go_wp2
      have hn0:(0:Int)≤2*(j:Int)+1:=by omega
      have ht0:(2*(j:Int)+1).toNat=2*j+1:=by omega
      go_region_held3 (fun W=>W.cell? ⟨b,o+(2*j+1)*2,none⟩=some (.int .i64 X.dl)∧W.cell? ⟨b,o+(2*j+1)*2+1,none⟩=some (.int .i64 X.id)∧W.cell? ⟨b,o+j*2,none⟩=some (.int .i64 Y.dl)∧W.cell? ⟨b,o+j*2+1,none⟩=some (.int .i64 Y.id))
       (first | with_reducible exact HSA.out | with_reducible exact HSB.out)
       ((go_at_call 168;(with_reducible refine (HF.out _).mono ?_);rintro e w1 ⟨rfl,hb1⟩;obtain ⟨hs,hbb⟩:=HSC.out _ hb1;have HSB:=Lh hs;have HL1:=Lh hbb;clear hb1 hs hbb))
      clear c0 c1 d0 d1
      go_wp2
      go_ret
      exact ⟨_,rfl,by rw [HUU.out];exact HL1.out⟩
  ·have HUU:=Lh (show dnF l i=g by rw [←HU.out,dnF_leaf (by rw [HGN.out];exact hl)])
   have hl' : ¬(2*(j:Int)+1<(n:Int)):=by omega
   go_wp2
   go_ret
   exact ⟨_,rfl,by rw [HUU.out];exact HL.out⟩
set_option maxHeartbeats 4000000 in
set_option maxRecDepth 20000 in
theorem rcut_any (A:Option Addr) (m c i:Nat) (l:List Du) (w:World) (hv:Dl w w.heap.size (.slice A (m+1) c) l) (hi:i≤m) (h100:m≤99) :
  Calls Tryz.prog 208 #[.slice A (m+1) c,.int .i64 i] w (DlV w (cuF l i)):=by
 obtain ⟨hn,hm1,hm2⟩:=hv.len
 have hlen:l.length=m+1:=hn.symm
 have HLEN:=Lh hlen
 obtain ⟨i0,hi0,hz0⟩:=Option.map_eq_some_iff.1 info_due
 simp only [Prod.mk.injEq] at hz0
 have HI:=Lh hi0
 have HZ:=Lh hz0
 have HV:=Lh hv
 obtain ⟨b,o,rfl,hb,c0,c1⟩:=hv.atg (k:=m) (by omega)
 obtain ⟨X,hX⟩:∃ X,ge l m=X:=⟨_,rfl⟩
 have HX:=Lh hX
 rw [hX] at c0 c1
 have hlt:(l.take m).length=m:=by rw [List.length_take];omega
 have HVT:=Lh (hv.upto m (by omega)).rd
 have HBB:=Lh hb
 have HC:=Lh (And.intro c0 c1)
 have hcut:=run_dupto (some ⟨b,o,none⟩) (m+1) c .i64 m (by omega)
 have hm9:(m:Int)≤99:=by omega
 have him:(i:Int)≤(m:Int):=by omega
 have hmlt:(m:Int)<((m+1:Nat):Int):=by omega
 clear hv hn hlen hm1 hm2 hX hb c0 c1 hi0 hz0
 go_enter Tryz.func208,Tryz.ntmps208
 by_cases hime:i=m
 ·subst hime
  go_wp2_with (at_builtin;refine wpList_append_rd _ rfl (.const (.slice none 0 0)) (.tmp 12) 29 rfl w.heap.size 127 i0 _ 2 16 Tryz.underlying29 HI.out HZ.out.1 HZ.out.2.1 HZ.out.2.2 rfl (by omega) (.slice none 0 0) 0 [] rfl (World.ownsRow_nil _ _ _ _) w.heap.size (some ⟨b,o,none⟩) i c (dcs (l.take i)) rfl HVT.out (dcs_one _) (by unfold maxLen;omega) (by omega) (Nat.le_refl _) ?_;intro v1 w1 hown1 hg1 hat1)
  rw [Nat.zero_add,List.nil_append] at hown1
  have HB1:=Lh (show Below w.heap.size w w1 from (Below.refl w.heap.size w).grown hg1 (Nat.le_refl _) (fun k e=>by simp [Value.ownBlock] at e))
  have HF:=Lh (show DlV w (cuF l i) (.returned v1) w1 from by
   rw [cuF_last HLEN.out]
   exact DlV.of_own (by rw [hlt];exact hown1) (Nat.le_refl _) HB1.out)
  clear hown1 hg1 hat1 hlt
  go_wp2
  go_ret
  exact HF.out
 ·have hilt:i<m:=by omega
  have hieq:((i:Int)==(m:Int))=false:=by simp;omega
  have hilt' : (i:Int)<(m:Int):=by omega
  clear hime
  go_wp2_with (at_builtin;refine wpList_append_rd _ rfl (.const (.slice none 0 0)) (.tmp 12) 29 rfl w.heap.size 127 i0 _ 2 16 Tryz.underlying29 HI.out HZ.out.1 HZ.out.2.1 HZ.out.2.2 rfl (by omega) (.slice none 0 0) 0 [] rfl (World.ownsRow_nil _ _ _ _) w.heap.size (some ⟨b,o,none⟩) m c (dcs (l.take m)) rfl HVT.out (dcs_one _) (by unfold maxLen;omega) (by omega) (Nat.le_refl _) ?_;intro v1 w1 hown1 hg1 hat1;rw [Nat.zero_add,List.nil_append] at hown1;have HB1:=Lh (show Below w.heap.size w w1 from (Below.refl w.heap.size w).grown hg1 (Nat.le_refl _) (fun k e=>by simp [Value.ownBlock] at e));obtain ⟨q,cap,rfl,hq,hle,hmx,hrow⟩:=own_row hown1 (by omega);have HR:=Lh (RwAt.mk (w:=w1) hrow hlt (Below.refl q w1));have HQ:=Lh hq;have HM:=Lh (And.intro hle hmx);clear hown1 hg1 hat1 hq hle hmx hrow;obtain ⟨y0,y1,f0,f1,hql⟩:=HR.out.row.at_ hilt;have c0:=(HB1.out.cell (p:=⟨b,o+m*2,none⟩) HBB.out).trans HC.out.1;have c1:=(HB1.out.cell (p:=⟨b,o+m*2+1,none⟩) HBB.out).trans HC.out.2)
  have HR2:=Lh (HR.out.put hilt X)
  clear y0 y1 f0 f1 hql c0 c1 hcut
  generalize ((w1.setCell ⟨q,i*2,none⟩ (.int .i64 X.dl)).setCell ⟨q,i*2+1,none⟩ (.int .i64 X.id))=w2 at*
  obtain ⟨y,hy⟩:∃ y,y=(l.take m).set i X:=⟨_,rfl⟩
  rw [←hy] at HR2
  have HY:=Lh hy
  have HYI:=Lh (show ge y i=X from by rw [hy,ge_set _ _ _ _ (by rw [hlt];exact hilt),if_pos rfl])
  clear hy hlt
  have HBW:=Lh (show Below w.heap.size w w2 from HB1.out.trans (HR2.out.bel.mono HQ.out))
  have HDL:=Lh (HR2.out.row.dl' HR2.out.len HM.out.1 HM.out.2)
  have HFI:=Lh (fun (z:List Du) (hz:z=cuF l i) e w4 (h:∃ v,e=.returned v∧LsAt w2 w.heap.size v z w4)=>show DlV w (cuF l i) e w4 from by
   subst hz
   obtain ⟨v,rfl,hla⟩:=h
   obtain ⟨A4,c4,rfl,_,_⟩:=hla.dl.form
   exact ⟨A4,c4,rfl,nwv_of hla.nw,hla.dl,HBW.out.trans (hla.bel.mono HBW.out.size)⟩)
  by_cases hi0:0<i
  ·obtain ⟨p,hp⟩:∃ p,p=(i - 1) / 2:=⟨_,rfl⟩
   have HPP:=Lh hp
   have hpm:p<m:=by omega
   have hw1:IntKind.i64.wrap ((i:Int) - 1)=(i:Int) - 1:=IntWalk.i64_in _ (by omega)
   have hq1:((i:Int) - 1).tdiv 2=(p:Int):=by rw [Int.tdiv_eq_ediv_of_nonneg (by omega)];omega
   have hw2:IntKind.i64.wrap (p:Int)=(p:Int):=IntWalk.i64_in _ (by omega)
   clear hp
   obtain ⟨Y,hY⟩:∃ Y,ge y p=Y:=⟨_,rfl⟩
   obtain ⟨c0,c1,f0,f1,hql⟩:=HR2.out.row.at_ hilt
   obtain ⟨d0,d1,g0,g1,-⟩:=HR2.out.row.at_ hpm
   rw [HYI.out] at c0 c1
   rw [hY] at d0 d1
   have HF:=Lh (fun w1=>rbef_any X Y w1)
   have HSA:=Lh (show w2.drew.cell? ⟨q,i*2,none⟩=some (.int .i64 X.dl)∧w2.drew.cell? ⟨q,i*2+1,none⟩=some (.int .i64 X.id)∧w2.drew.cell? ⟨q,p*2,none⟩=some (.int .i64 Y.dl)∧w2.drew.cell? ⟨q,p*2+1,none⟩=some (.int .i64 Y.id) from ⟨c0,c1,d0,d1⟩)
   have HSC:=Lh (fun w3 (hb1:Below w2.drew.heap.size w2.drew w3)=>show (w3.cell? ⟨q,i*2,none⟩=some (.int .i64 X.dl)∧w3.cell? ⟨q,i*2+1,none⟩=some (.int .i64 X.id)∧w3.cell? ⟨q,p*2,none⟩=some (.int .i64 Y.dl)∧w3.cell? ⟨q,p*2+1,none⟩=some (.int .i64 Y.id))∧Dl w3 w3.heap.size (.slice (some ⟨q,0,none⟩) m cap) y∧Below w2.heap.size w2 w3 from ⟨⟨(hb1.cell (p:=⟨q,i*2,none⟩) hql).trans c0,(hb1.cell (p:=⟨q,i*2+1,none⟩) hql).trans c1,(hb1.cell (p:=⟨q,p*2,none⟩) hql).trans d0,(hb1.cell (p:=⟨q,p*2+1,none⟩) hql).trans d1⟩,HDL.out.up (drew_bel hb1),drew_bel hb1⟩)
   have hi0' : (0:Int)<(i:Int):=by omega
   have hpm' : (p:Int)<(m:Int):=by omega
   have hgd:decide ((0:Int)<(i:Int))=true:=decide_eq_true hi0'
   clear f0 f1 g0 g1 hql
   cases hb:bef X Y with
   | true=>
    have HCU:=Lh (show upF y i=cuF l i from by
     rw [HY.out,←HX.out,cuF_up HLEN.out (by omega)]
     rw [HX.out,←HY.out,HYI.out,←HPP.out,hY]
     exact hb)
    rw [hb] at HF
    clear hb hY
    go_region_held3 (fun W=>W.cell? ⟨q,i*2,none⟩=some (.int .i64 X.dl)∧W.cell? ⟨q,i*2+1,none⟩=some (.int .i64 X.id)∧W.cell? ⟨q,p*2,none⟩=some (.int .i64 Y.dl)∧W.cell? ⟨q,p*2+1,none⟩=some (.int .i64 Y.id))
     (first | with_reducible exact HSA.out | with_reducible exact HSB.out)
     ((go_at_call 168;(with_reducible refine (HF.out _).mono ?_);rintro e w3 ⟨rfl,hb1⟩;obtain ⟨hs,hd3,hb3⟩:=HSC.out _ hb1;have HSB:=Lh hs;have HD3:=Lh hd3;have HB3:=Lh hb3;clear hb1 hs hd3 hb3))
    clear c0 c1 d0 d1 hw1 hq1 hw2
    have HU:=Lh (rup_any w.heap.size (some ⟨q,0,none⟩) m cap i y w3 HD3.out (by have:=HBW.out.size;have:=HB3.out.size;omega) (nw_some HQ.out) hilt (by omega))
    go_wp2_with fail
    refine HU.out.mono ?_
    rintro e w4 ⟨v4,rfl,h4⟩
    have HFF:=Lh (HFI.out _ HCU.out (.returned v4) w4 ⟨v4,rfl,⟨h4.dl,h4.nw,HB3.out.trans (h4.bel.mono HB3.out.size)⟩⟩)
    clear h4
    go_wp2
    go_ret
    exact HFF.out
   | false=>
    have HCU:=Lh (show dnF y i=cuF l i from by
     rw [HY.out,←HX.out,cuF_dn HLEN.out (by omega)]
     rw [HX.out,←HY.out,HYI.out,←HPP.out,hY]
     exact hb)
    rw [hb] at HF
    clear hb hY
    go_region_held3 (fun W=>W.cell? ⟨q,i*2,none⟩=some (.int .i64 X.dl)∧W.cell? ⟨q,i*2+1,none⟩=some (.int .i64 X.id)∧W.cell? ⟨q,p*2,none⟩=some (.int .i64 Y.dl)∧W.cell? ⟨q,p*2+1,none⟩=some (.int .i64 Y.id))
     (first | with_reducible exact HSA.out | with_reducible exact HSB.out)
     ((go_at_call 168;(with_reducible refine (HF.out _).mono ?_);rintro e w3 ⟨rfl,hb1⟩;obtain ⟨hs,hd3,hb3⟩:=HSC.out _ hb1;have HSB:=Lh hs;have HD3:=Lh hd3;have HB3:=Lh hb3;clear hb1 hs hd3 hb3))
    clear c0 c1 d0 d1 hw1 hq1 hw2
    have HU:=Lh (rdown_any w.heap.size (some ⟨q,0,none⟩) m cap i y w3 HD3.out (by have:=HBW.out.size;have:=HB3.out.size;omega) (nw_some HQ.out) hilt (by omega))
    go_wp2_with fail
    refine HU.out.mono ?_
    rintro e w4 ⟨v4,rfl,h4⟩
    have HFF:=Lh (HFI.out _ HCU.out (.returned v4) w4 ⟨v4,rfl,⟨h4.dl,h4.nw,HB3.out.trans (h4.bel.mono HB3.out.size)⟩⟩)
    clear h4
    go_wp2
    go_ret
    exact HFF.out
  ·obtain rfl:i=0:=by omega
   have HCU:=Lh (show dnF y 0=cuF l 0 from by
    rw [HY.out,←HX.out,cuF_dn HLEN.out (by omega)]
    exact bef_irr _)
   go_quiet (fail)
   have HU:=Lh (fun k=>(show Calls Tryz.prog 220 #[.slice (some ⟨q,0,none⟩) m cap,.int .i64 0] (w2.drewN k) (LvP (w2.drewN k) w.heap.size (dnF y 0)) from rdown_any w.heap.size (some ⟨q,0,none⟩) m cap 0 y (w2.drewN k) (HDL.out.drewN k) HBW.out.size (nw_some HQ.out) hilt (by omega)))
   go_wp2_with fail
   refine (HU.out _).mono ?_
   rintro e w4 ⟨v4,rfl,h4⟩
   have HFF:=Lh (HFI.out _ HCU.out (.returned v4) w4 ⟨v4,rfl,⟨h4.dl,h4.nw,⟨h4.bel.os,h4.bel.tape,h4.bel.output,h4.bel.size,h4.bel.block⟩⟩⟩)
   clear h4
   go_wp2
   go_ret
   exact HFF.out
theorem rix5b_any (A:Option Addr) (n c:Nat) (l:List Du) (id:Int) (w:World) (hv:Dl w w.heap.size (.slice A n c) l) :
  Calls Tryz.prog 167 #[.slice A n c,.int .i64 id] w fun e w'=>e=.returned (.int .i64 (ixD l id))∧Below w.heap.size w w':=
 (rix5_any A n c l id w _ hv).mono fun e w' ⟨h,hw⟩=>⟨h,hw ▸ Below.refl _ _⟩
set_option maxHeartbeats 2000000 in
theorem rremove5_any (A:Option Addr) (n c:Nat) (l:List Du) (id:Int) (w:World) (hv:Dl w w.heap.size (.slice A n c) l) :
  Calls Tryz.prog 182 #[.slice A n c,.int .i64 id] w (DlE w (rmR l id) (hrmE l id)):=by
 obtain ⟨rfl,hm1,hm2⟩:=hv.len
 have HV:=Lh hv
 have HVA:=Lh (fun w1 hv=>rvalid5_any A l.length c l w1 hv)
 have HFI:=Lh (fun w1 hv=>rix5b_any A l.length c l id w1 hv)
 clear hv hm1 hm2
 by_cases h0:vaF l=0
 ·have h12:=(vaF_zero h0).1
  by_cases hi:ixD l id<0
  ·have hE:hrmE l id=4:=by unfold hrmE;rw [if_neg (by simpa using h0),if_pos hi]
   have HR:=Lh (show rmR l id=[] by unfold rmR;rw [hE];rfl)
   rw [h0] at HVA
   rw [hE]
   generalize ixD l id=r at*
   clear h0 hE
   go_enter Tryz.func182,Tryz.ntmps182
   go_wp2_with fail
   refine (HVA.out _ HV.out).mono ?_
   rintro e w1 ⟨rfl,hb⟩
   have HB1:=Lh hb
   clear hb
   go_wp2_with fail
   refine (HFI.out _ (HV.out.up HB1.out)).mono ?_
   rintro e w2 ⟨rfl,hb⟩
   have HB2:=Lh (HB1.out.trans (hb.mono HB1.out.size))
   clear hb
   go_wp2
   exact bodyPost_ret (v:=.tuple #[.slice none 0 0,.int .i64 4]) (by simp only [results,Tryz.results182];go_simp <;> rfl) rfl ⟨none,0,by rw [HR.out];rfl,nw_none,by rw [HR.out];exact Dl.nil,HB2.out⟩
  ·have hE:hrmE l id=0:=by unfold hrmE;rw [if_neg (by simpa using h0),if_neg hi]
   obtain ⟨_,k,hk,hke,_⟩:=hrmE_zero hE
   obtain ⟨m,hm⟩:∃ m,l.length=m+1:=⟨l.length - 1,by omega⟩
   have HR:=Lh (show rmR l id=cuF l k by unfold rmR;rw [if_pos hE,hke];rfl)
   rw [h0] at HVA
   rw [hE]
   rw [hke] at HFI
   rw [hm] at HVA HFI HV ⊢
   have HW:=Lh (fun w1 hv=>rcut_any A m c k l w1 hv (by omega) (by omega))
   have hk0:¬((k:Int)<0):=by omega
   clear h0 hE hi hk hke hm h12
   go_enter Tryz.func182,Tryz.ntmps182
   go_wp2_with fail
   refine (HVA.out _ HV.out).mono ?_
   rintro e w1 ⟨rfl,hb⟩
   have HB1:=Lh hb
   clear hb
   go_wp2_with fail
   refine (HFI.out _ (HV.out.up HB1.out)).mono ?_
   rintro e w2 ⟨rfl,hb⟩
   have HB2:=Lh (HB1.out.trans (hb.mono HB1.out.size))
   clear hb
   go_wp2_with fail
   refine (HW.out _ (HV.out.up HB2.out)).mono ?_
   rintro e w3 ⟨A3,c3,rfl,hnw,hl,hb⟩
   have HB3:=Lh (HB2.out.trans (hb.mono HB2.out.size))
   have HN:=Lh (nw_low hnw HB2.out.size)
   have HL:=Lh hl
   clear hb hnw hl
   go_wp2
   exact bodyPost_ret (v:=.tuple #[.slice A3 (cuF l k).length c3,.int .i64 0]) (by simp only [results,Tryz.results182];go_simp <;> rfl) rfl ⟨A3,c3,by rw [HR.out],HN.out,by rw [HR.out];exact HL.out,HB3.out⟩
 ·have hE:hrmE l id=vaF l:=by unfold hrmE;rw [if_pos h0]
  have HR:=Lh (show rmR l id=[] by unfold rmR;rw [if_neg (by rw [hE];exact h0)])
  have hne:(vaF l != 0)=true:=bne_iff_ne.2 h0
  rw [hE]
  generalize vaF l=x at*
  clear h0 hE
  go_enter Tryz.func182,Tryz.ntmps182
  go_wp2_with fail
  refine (HVA.out _ HV.out).mono ?_
  rintro e w1 ⟨rfl,hb⟩
  have HB1:=Lh hb
  clear hb
  go_wp2
  exact bodyPost_ret (v:=.tuple #[.slice none 0 0,.int .i64 x]) (by simp only [results,Tryz.results182];go_simp <;> rfl) rfl ⟨none,0,by rw [HR.out];rfl,nw_none,by rw [HR.out];exact Dl.nil,HB1.out⟩
theorem rlE_4 {l:List Le} {h:List Du} {id:Int} (h0:tbV l h=0) (hk:kFi Le.id l id<0):rlE l h id=4:=by unfold rlE;rw [if_neg (by simpa using h0),if_pos hk]
theorem rlE_0 {l:List Le} {h:List Du} {id:Int} (h0:tbV l h=0) (hk:¬kFi Le.id l id<0):rlE l h id=0:=by unfold rlE;rw [if_neg (by simpa using h0),if_neg hk]
theorem tme_end {w W:World} {r s d lo lo2 d2:Nat} {D D2:Option Addr} {l:List Le} {h:List Du} (hE:El W W.heap.size (.slice D l.length d) l) (hN:Nw lo D) (h1:r<lo) (h2:s<lo) (hK:Dl W W.heap.size (.slice D2 h.length d2) h) (hN2:Nw lo2 D2) (h3:r<lo2) (h4:s<lo2) (M:Msg) (hb:Below w.heap.size w W) (hl:w.heap.size≤lo) (hl2:w.heap.size≤lo2) (hr:w.heap.size≤r) (hs:w.heap.size≤s) :
  TME w l h M 0 (.returned (.tuple #[.agg #[.slice D l.length d,.slice D2 h.length d2],M.v,.int .i64 0])) (set7 (set2 W r (.slice D l.length d) (.slice D2 h.length d2)) s 0 M):=
 ⟨D,d,D2,d2,rfl,nw_low hN hl,nw_low hN2 hl2,(El.offs hN h2 M.l 0 (hE.set2 hN h1)).more (by simp),(Dl.offs hN2 h4 M.l 0 (hK.set2 hN2 h3)).more (by simp),sets_below hs M.l 0 _ (set2_below hb hr)⟩
theorem tme_drew {w W:World} {l:List Le} {h:List Du} {M:Msg} {x:Int} {e:Ending} (k:TME w l h M x e W):TME w l h M x e W.drew:=by
 obtain ⟨A,c,A2,c2,he,h1,h2,h3,h4,h5⟩:=k
 exact ⟨A,c,A2,c2,he,h1,h2,h3,h4,h5.drew⟩
set_option maxHeartbeats 8000000 in
set_option maxRecDepth 20000 in
theorem rtrelease_any (A:Option Addr) (n c:Nat) (l:List Le) (A2:Option Addr) (n2 c2:Nat) (h:List Du) (id:Int) (w:World) (hv:El w w.heap.size (.slice A n c) l) (hd:Dl w w.heap.size (.slice A2 n2 c2) h) :
  Calls Tryz.prog 139 #[tv A n c A2 n2 c2,.int .i64 id] w (TME w (rlL l h id) (rlH l h id) (rlM l h id) (rlE l h id)):=by
 obtain ⟨rfl,hm1,hm2⟩:=hv.len
 obtain ⟨rfl,hm3,hm4⟩:=hd.len
 have H0:=Lh (RlW.start hv hd 31 56)
 have HW:=Lh hv
 have HV:=Lh (fun p W (k:VaA w p A c l A2 c2 h W)=>rtvalid_any A l.length c l A2 h.length c2 h W k.el k.dl)
 have HFI:=Lh (fun p W (k:VaA w p A c l A2 c2 h W)=>rtfind_any A l.length c l A2 h.length c2 id W k.el)
 have HRM:=Lh (fun p W (k:VaA w p A c l A2 c2 h W)=>rremove5_any A2 h.length c2 h id W k.dl)
 clear hv hd hm1 hm3 hm4
 by_cases h0:tbV l h=0
 ·rw [h0] at HV
  by_cases hk0:kFi Le.id l id<0
  ·have he:rlE l h id=4:=rlE_4 h0 hk0
   obtain ⟨hH,hL,hM⟩:=rlE_ne (l:=l) (h:=h) (id:=id) (by rw [he];decide)
   rw [hH,hL,hM,he]
   generalize kFi Le.id l id=y at*
   clear he hH hL hM h0
   go_enter Tryz.func139,Tryz.ntmps139
   obtain ⟨t0,t1,tl⟩:=H0.out.va.tb
   go_wp2_with fail
   clear t0 t1 tl
   obtain ⟨p,hp⟩:∃ p,p=w.heap.size:=⟨_,rfl⟩
   obtain ⟨r,hr⟩:∃ r,r=w.heap.size+1:=⟨_,rfl⟩
   obtain ⟨s,hs⟩:∃ s,s=w.heap.size+1+1:=⟨_,rfl⟩
   rw [←hs,←hr,←hp] at H0 ⊢
   clear hp hr hs
   generalize (((w.alloc (.cells #[.slice A l.length c,.slice A2 h.length c2] 31)).alloc (.cells #[.slice none 0 0,.slice none 0 0] 31)).alloc (.cells #[.int .i64 0,.int .i64 0,.int .i64 0,.int .i64 0,.int .i64 0,.int .i64 0,.string ⟨#[]⟩] 56))=w1 at*
   refine (HV.out _ _ H0.out.va).mono ?_
   rintro e w2 ⟨rfl,hb⟩
   have H1:=Lh (H0.out.below hb)
   clear hb
   obtain ⟨t0,t1,tl⟩:=H1.out.va.tb
   go_wp2_with fail
   clear t0 t1 tl
   refine (HFI.out _ _ H1.out.va).mono ?_
   rintro e w3 ⟨rfl,hb⟩
   have H2:=Lh (H1.out.below hb)
   clear hb
   obtain ⟨r0,r1,f0,f1,rl⟩:=H2.out.rt
   obtain ⟨s0,s1,s2,s3,s4,s5,s6,g0,g1,g2,g3,g4,g5,g6,sl⟩:=H2.out.rm
   have hrs:¬r=s:=by have:=H2.out.ne;omega
   have hsr:¬s=r:=by have:=H2.out.ne;omega
   have HB:=Lh (show Below w.heap.size w (set7 (set2 w3 r (.slice none 0 0) (.slice none 0 0)) s 0 zM) from sets_below (by have:=H2.out.ne;omega) zM.l 0 _ (set2_below H2.out.va.bel (by have:=H2.out.ne;omega)))
   go_wp2
   exact bodyPost_ret (v:=.tuple #[.agg #[.slice none 0 0,.slice none 0 0],.agg #[.int .i64 0,.int .i64 0,.int .i64 0,.int .i64 0,.int .i64 0,.int .i64 0,.string ⟨#[]⟩],.int .i64 4]) (by simp only [results,Tryz.results139];go_simp <;> rfl) rfl (tme_nil rfl rfl rfl rfl HB.out)
  ·have he:rlE l h id=0:=rlE_0 h0 hk0
   obtain ⟨t,k,hk,hka,_,hH,hL,hM⟩:=rlE_at he
   have hfi:kFi Le.id l id=(k:Int):=by have:=(kAt_fi t.asc (x:=id) (by omega)).1;omega
   rw [hfi] at HFI
   have hrm:hrmE h id=0:=by rw [←rlE_tb t];exact he
   rw [hrm] at HRM
   rw [he,hL,hM,hH]
   have hl12:l.length≤12:=t.len
   obtain ⟨X,hX⟩:∃ X,l[k]=X:=⟨_,rfl⟩
   rw [hX]
   have HXK:=Lh hX
   generalize rmR h id=K at*
   have hk' : (k:Int)<(l.length:Int):=by omega
   have hwr:IntKind.i64.wrap ((k:Int)+1)=(k:Int)+1:=IntWalk.i64_in _ (by omega)
   have hkc:l.length≤c:=HW.out.len.2.1
   have hcut:=run_eupto A l.length c .i64 k (by omega)
   obtain ⟨A',hA',hcut0⟩:=run_ecut A l.length c .i64 (k+1) (by omega)
   have hcut2:∀ W,(Instr.slice 28 (.slice A l.length c) (some (.int .i64 ((k:Int)+1))) none none).run Tryz.prog W=.ok (.slice A' (l.length - (k+1)) (c - (k+1))) W:=fun W=>by
    have:=hcut0 W
    rwa [show ((k+1:Nat):Int)=(k:Int)+1 by omega] at this
   have h1:=HW.out.upto k (by omega)
   have h3:=HW.out.cut (k+1) (by omega)
   rw [←hA'] at h3
   have HE1:=Lh h1
   have HE3:=Lh h3
   have HER:=Lh (eraseIdx_td l k)
   have HLN:=Lh (show (l.take k).length=k∧(l.drop (k+1)).length=l.length - (k+1)∧(l.eraseIdx k).length=k+(l.length - (k+1)) by refine ⟨by simp;omega,by simp,by rw [←eraseIdx_td];simp;omega⟩)
   obtain ⟨LE,hLE⟩:∃ LE,LE=l.eraseIdx k:=⟨_,rfl⟩
   rw [←hLE] at HER HLN ⊢
   have hkk:(k:Int)+1≤(l.length:Int):=by omega
   have hkc' : (k:Int)≤(c:Int):=by omega
   have hk1:(0:Int)≤(k:Int)+1:=by omega
   have hk2:¬((k:Int)<0):=by omega
   obtain ⟨i0,hi0,hz0⟩:=Option.map_eq_some_iff.1 info_lease
   simp only [Prod.mk.injEq] at hz0
   have HI:=Lh hi0
   have HZ:=Lh hz0
   clear he t hka hH hL hM hX hfi hrm h0 hk0 hcut0 hA' h1 h3 hLE hi0 hz0
   go_enter Tryz.func139,Tryz.ntmps139
   obtain ⟨t0,t1,tl⟩:=H0.out.va.tb
   go_wp2_with fail
   clear t0 t1 tl
   obtain ⟨p,hp⟩:∃ p,p=w.heap.size:=⟨_,rfl⟩
   obtain ⟨r,hr⟩:∃ r,r=w.heap.size+1:=⟨_,rfl⟩
   obtain ⟨s,hs⟩:∃ s,s=w.heap.size+1+1:=⟨_,rfl⟩
   rw [←hs,←hr,←hp] at H0 ⊢
   clear hp hr hs
   generalize (((w.alloc (.cells #[.slice A l.length c,.slice A2 h.length c2] 31)).alloc (.cells #[.slice none 0 0,.slice none 0 0] 31)).alloc (.cells #[.int .i64 0,.int .i64 0,.int .i64 0,.int .i64 0,.int .i64 0,.int .i64 0,.string ⟨#[]⟩] 56))=w1 at*
   refine (HV.out _ _ H0.out.va).mono ?_
   rintro e w2 ⟨rfl,hb⟩
   have H1:=Lh (H0.out.below hb)
   clear hb
   obtain ⟨t0,t1,tl⟩:=H1.out.va.tb
   go_wp2_with fail
   clear t0 t1 tl
   refine (HFI.out _ _ H1.out.va).mono ?_
   rintro e w3 ⟨rfl,hb⟩
   have H2:=Lh (H1.out.below hb)
   clear hb
   obtain ⟨t0,t1,tl⟩:=H2.out.va.tb
   go_wp2_with fail
   clear t0 t1 tl
   refine (HRM.out _ _ H2.out.va).mono ?_
   rintro e w4 ⟨A3,c3,rfl,hnw,hl,hb⟩
   have H3:=Lh (H2.out.below hb)
   have HK:=Lh hl
   have HNW:=Lh hnw
   have HB4:=Lh H3.out.va.bel
   clear hb hnw hl
   have HT0:=Lh (show w4.drew.cell? ⟨p,0,none⟩=some (.slice A l.length c) from H3.out.va.tb.1)
   have HD:=Lh (show Below w4.heap.size w4 w4.drew from (Below.refl _ _).drew)
   have HAF:=Lh (fun W (hb:Below w4.heap.size w4 W)=>H3.out.below hb)
   have HP1:=Lh (fun w5 v1 (ho:w5.ownsRow w4.drew.heap.size 58 8 v1 (0+k) ([]++ecs (l.take k))) (hg:w4.drew.grownBy w5 (Value.slice none 0 0).ownBlock)=>show w5.cell? ⟨p,0,none⟩=some (.slice A l.length c)∧Below w4.heap.size w4 w5∧w5.ownsRow w4.heap.size 58 8 v1 k (ecs (l.take k)) from by
    have hb:Below w4.heap.size w4 w5:=HD.out.trans (below_nil hg rfl)
    rw [Nat.zero_add,List.nil_append] at ho
    exact ⟨(HAF.out _ hb).va.tb.1,hb,ho⟩)
   have HP2:=Lh (fun w5 w6 v1 v2 (hb5:Below w4.heap.size w4 w5) (ho1:w5.ownsRow w4.heap.size 58 8 v1 k (ecs (l.take k))) (ho:w6.ownsRow w4.heap.size 58 8 v2 (k+(l.length - (k+1))) (ecs (l.take k)++ecs (l.drop (k+1)))) (hg:w5.grownBy w6 v1.ownBlock)=>show w6.cell? ⟨p,0,none⟩=some (.slice A l.length c)∧Below w4.heap.size w4 w6∧w6.ownsRow w4.heap.size 58 8 v2 LE.length (ecs LE) from by
    have hb:Below w4.heap.size w4 w6:=below_own hb5 ho1 hg
    rw [←ecs_app,HER.out,←HLN.out.2.2] at ho
    exact ⟨(HAF.out _ hb).va.tb.1,hb,ho⟩)
   go_wp2_with fail
   go_region_held3 (fun W=>W.cell? ⟨p,0,none⟩=some (.slice A l.length c))
    (first | with_reducible exact HT0.out | with_reducible exact HT1.out | with_reducible exact HT2.out)
    (first
    | (refine step_append_rd _ (by rfl) _ _ _ (by rfl) w4.heap.size 58 i0 _ 8 72 Tryz.underlying28 HI.out HZ.out.1 HZ.out.2.1 HZ.out.2.2 rfl (by omega) v1 k (ecs (l.take k)) (by rfl) HO1.out _ A' (l.length - (k+1)) (c - (k+1)) (ecs (l.drop (k+1))) (by rfl) ((HE3.out.below (HB4.out.trans (HB5.out.mono HB4.out.size))).rd) (ecs_one _) (by unfold maxLen;omega) (by omega) HB5.out.size ?_;intro v2 w6 hown2 hg2 hat2;obtain ⟨k1,k2,k3⟩:=HP2.out _ _ _ _ HB5.out HO1.out hown2 hg2;have HT2:=Lh k1;have HB6:=Lh k2;have HO2:=Lh k3;clear hown2 hg2 hat2 k1 k2 k3)
    | (refine step_append_rd _ (by rfl) _ _ _ (by rfl) w4.drew.heap.size 58 i0 _ 8 72 Tryz.underlying28 HI.out HZ.out.1 HZ.out.2.1 HZ.out.2.2 rfl (by omega) (.slice none 0 0) 0 [] (by rfl) (World.ownsRow_nil _ _ _ _) _ A k c (ecs (l.take k)) (by rfl) ((HE1.out.below (HB4.out.trans (HD.out.mono HB4.out.size))).rd) (ecs_one _) (by unfold maxLen;omega) (by omega) (Nat.le_refl _) ?_;intro v1 w5 hown1 hg1 hat1;obtain ⟨k1,k2,k3⟩:=HP1.out _ _ hown1 hg1;have HT1:=Lh k1;have HB5:=Lh k2;have HO1:=Lh k3;clear hown1 hg1 hat1 k1 k2 k3))
   obtain ⟨A4,c4,rfl⟩:=own_form HO2.out
   obtain ⟨b,o,rfl,hbw⟩:=HW.out.some_ (by omega)
   have H6:=Lh (HAF.out _ HB6.out)
   have HBR:=Lh (show p≠r∧b≠r∧p≠s∧b≠s∧r≠s by have:=H6.out.ne;omega)
   have HS0:=Lh (fun W (q:RlW w p r s (some ⟨b,o,none⟩) c l A2 c2 h W)=>show W.cell? ⟨p,0,none⟩=some (.slice (some ⟨b,o,none⟩) l.length c)∧W.cell? ⟨b,o+k*8,none⟩=some (.int .i64 X.m.id)∧W.cell? ⟨b,o+k*8+1,none⟩=some (.int .i64 X.m.rt)∧W.cell? ⟨b,o+k*8+2,none⟩=some (.int .i64 X.m.ep)∧W.cell? ⟨b,o+k*8+3,none⟩=some (.int .i64 X.m.ct)∧W.cell? ⟨b,o+k*8+4,none⟩=some (.int .i64 X.m.gn)∧W.cell? ⟨b,o+k*8+5,none⟩=some (.int .i64 X.m.st)∧W.cell? ⟨b,o+k*8+6,none⟩=some (.string X.m.bd) from by
    obtain ⟨⟨c0,c1,c2',c3,c4,c5,c6,c7⟩,_⟩:=q.va.el.c8 hk
    rw [HXK.out] at c0 c1 c2' c3 c4 c5 c6 c7
    exact ⟨q.va.tb.1,c0,c1,c2',c3,c4,c5,c6⟩)
   have HSa:=Lh (fun W v v2 (q:W.cell? ⟨p,0,none⟩=some (.slice (some ⟨b,o,none⟩) l.length c)∧W.cell? ⟨b,o+k*8,none⟩=some (.int .i64 X.m.id)∧W.cell? ⟨b,o+k*8+1,none⟩=some (.int .i64 X.m.rt)∧W.cell? ⟨b,o+k*8+2,none⟩=some (.int .i64 X.m.ep)∧W.cell? ⟨b,o+k*8+3,none⟩=some (.int .i64 X.m.ct)∧W.cell? ⟨b,o+k*8+4,none⟩=some (.int .i64 X.m.gn)∧W.cell? ⟨b,o+k*8+5,none⟩=some (.int .i64 X.m.st)∧W.cell? ⟨b,o+k*8+6,none⟩=some (.string X.m.bd))=>show (set2 W r v v2).cell? ⟨p,0,none⟩=some (.slice (some ⟨b,o,none⟩) l.length c)∧(set2 W r v v2).cell? ⟨b,o+k*8,none⟩=some (.int .i64 X.m.id)∧(set2 W r v v2).cell? ⟨b,o+k*8+1,none⟩=some (.int .i64 X.m.rt)∧(set2 W r v v2).cell? ⟨b,o+k*8+2,none⟩=some (.int .i64 X.m.ep)∧(set2 W r v v2).cell? ⟨b,o+k*8+3,none⟩=some (.int .i64 X.m.ct)∧(set2 W r v v2).cell? ⟨b,o+k*8+4,none⟩=some (.int .i64 X.m.gn)∧(set2 W r v v2).cell? ⟨b,o+k*8+5,none⟩=some (.int .i64 X.m.st)∧(set2 W r v v2).cell? ⟨b,o+k*8+6,none⟩=some (.string X.m.bd) from ⟨(set2_far HBR.out.1).trans q.1,(set2_far HBR.out.2.1).trans q.2.1,(set2_far HBR.out.2.1).trans q.2.2.1,(set2_far HBR.out.2.1).trans q.2.2.2.1,(set2_far HBR.out.2.1).trans q.2.2.2.2.1,(set2_far HBR.out.2.1).trans q.2.2.2.2.2.1,(set2_far HBR.out.2.1).trans q.2.2.2.2.2.2.1,(set2_far HBR.out.2.1).trans q.2.2.2.2.2.2.2⟩)
   have HSb:=Lh (fun W (q:W.cell? ⟨p,0,none⟩=some (.slice (some ⟨b,o,none⟩) l.length c)∧W.cell? ⟨b,o+k*8,none⟩=some (.int .i64 X.m.id)∧W.cell? ⟨b,o+k*8+1,none⟩=some (.int .i64 X.m.rt)∧W.cell? ⟨b,o+k*8+2,none⟩=some (.int .i64 X.m.ep)∧W.cell? ⟨b,o+k*8+3,none⟩=some (.int .i64 X.m.ct)∧W.cell? ⟨b,o+k*8+4,none⟩=some (.int .i64 X.m.gn)∧W.cell? ⟨b,o+k*8+5,none⟩=some (.int .i64 X.m.st)∧W.cell? ⟨b,o+k*8+6,none⟩=some (.string X.m.bd))=>show (set7 W s 0 X.m).cell? ⟨p,0,none⟩=some (.slice (some ⟨b,o,none⟩) l.length c)∧(set7 W s 0 X.m).cell? ⟨b,o+k*8,none⟩=some (.int .i64 X.m.id)∧(set7 W s 0 X.m).cell? ⟨b,o+k*8+1,none⟩=some (.int .i64 X.m.rt)∧(set7 W s 0 X.m).cell? ⟨b,o+k*8+2,none⟩=some (.int .i64 X.m.ep)∧(set7 W s 0 X.m).cell? ⟨b,o+k*8+3,none⟩=some (.int .i64 X.m.ct)∧(set7 W s 0 X.m).cell? ⟨b,o+k*8+4,none⟩=some (.int .i64 X.m.gn)∧(set7 W s 0 X.m).cell? ⟨b,o+k*8+5,none⟩=some (.int .i64 X.m.st)∧(set7 W s 0 X.m).cell? ⟨b,o+k*8+6,none⟩=some (.string X.m.bd) from ⟨(sets_far (p:=⟨p,0,none⟩) HBR.out.2.2.1 0 X.m.l).trans q.1,(sets_far (p:=⟨b,o+k*8,none⟩) HBR.out.2.2.2.1 0 X.m.l).trans q.2.1,(sets_far (p:=⟨b,o+k*8+1,none⟩) HBR.out.2.2.2.1 0 X.m.l).trans q.2.2.1,(sets_far (p:=⟨b,o+k*8+2,none⟩) HBR.out.2.2.2.1 0 X.m.l).trans q.2.2.2.1,(sets_far (p:=⟨b,o+k*8+3,none⟩) HBR.out.2.2.2.1 0 X.m.l).trans q.2.2.2.2.1,(sets_far (p:=⟨b,o+k*8+4,none⟩) HBR.out.2.2.2.1 0 X.m.l).trans q.2.2.2.2.2.1,(sets_far (p:=⟨b,o+k*8+5,none⟩) HBR.out.2.2.2.1 0 X.m.l).trans q.2.2.2.2.2.2.1,(sets_far (p:=⟨b,o+k*8+6,none⟩) HBR.out.2.2.2.1 0 X.m.l).trans q.2.2.2.2.2.2.2⟩)
   have HSd:=Lh (fun (W:World) (q:W.cell? ⟨p,0,none⟩=some (.slice (some ⟨b,o,none⟩) l.length c)∧W.cell? ⟨b,o+k*8,none⟩=some (.int .i64 X.m.id)∧W.cell? ⟨b,o+k*8+1,none⟩=some (.int .i64 X.m.rt)∧W.cell? ⟨b,o+k*8+2,none⟩=some (.int .i64 X.m.ep)∧W.cell? ⟨b,o+k*8+3,none⟩=some (.int .i64 X.m.ct)∧W.cell? ⟨b,o+k*8+4,none⟩=some (.int .i64 X.m.gn)∧W.cell? ⟨b,o+k*8+5,none⟩=some (.int .i64 X.m.st)∧W.cell? ⟨b,o+k*8+6,none⟩=some (.string X.m.bd))=>show W.drew.cell? ⟨p,0,none⟩=some (.slice (some ⟨b,o,none⟩) l.length c)∧W.drew.cell? ⟨b,o+k*8,none⟩=some (.int .i64 X.m.id)∧W.drew.cell? ⟨b,o+k*8+1,none⟩=some (.int .i64 X.m.rt)∧W.drew.cell? ⟨b,o+k*8+2,none⟩=some (.int .i64 X.m.ep)∧W.drew.cell? ⟨b,o+k*8+3,none⟩=some (.int .i64 X.m.ct)∧W.drew.cell? ⟨b,o+k*8+4,none⟩=some (.int .i64 X.m.gn)∧W.drew.cell? ⟨b,o+k*8+5,none⟩=some (.int .i64 X.m.st)∧W.drew.cell? ⟨b,o+k*8+6,none⟩=some (.string X.m.bd) from q)
   have HU:=Lh (HS0.out w6 H6.out)
   have HU0:=Lh (HSd.out w6 HU.out)
   have HV1:=Lh (HSa.out w6 (.slice A4 LE.length c4) (.slice A3 K.length c3) HU.out)
   have HU1:=Lh (HSd.out (set2 w6 r (.slice A4 LE.length c4) (.slice A3 K.length c3)) HV1.out)
   have HU2:=Lh (HSd.out (set7 (set2 w6 r (.slice A4 LE.length c4) (.slice A3 K.length c3)) s 0 X.m) (HSb.out (set2 w6 r (.slice A4 LE.length c4) (.slice A3 K.length c3)) HV1.out))
   have HE6:=Lh (El.of_own HO2.out)
   have HN6:=Lh (nwv_of (nwv_own HO2.out (Nat.le_refl _)))
   have HK6:=Lh (HK.out.up HB6.out)
   have HF0:=Lh (tme_end (w:=w) HE6.out HN6.out (show r<w4.heap.size from H3.out.rt.lt) (show s<w4.heap.size from H3.out.rm.lt) HK6.out HNW.out (show r<w3.heap.size from H2.out.rt.lt) (show s<w3.heap.size from H2.out.rm.lt) X.m H6.out.va.bel H3.out.va.bel.size H2.out.va.bel.size (by have:=H6.out.ne;omega) (by have:=H6.out.ne;omega))
   have HF:=Lh (tme_drew HF0.out)
   obtain ⟨r0,r1,f0,f1,rl⟩:=H6.out.rt
   obtain ⟨s0,s1,s2,s3,s4,s5,s6,g0,g1,g2,g3,g4,g5,g6,sl⟩:=H6.out.rm
   have hrs:¬r=s:=HBR.out.2.2.2.2
   have hsr:¬s=r:=fun e=>HBR.out.2.2.2.2 e.symm
   go_wp2_with fail
   go_region_held3 (fun W=>W.cell? ⟨p,0,none⟩=some (.slice (some ⟨b,o,none⟩) l.length c)∧W.cell? ⟨b,o+k*8,none⟩=some (.int .i64 X.m.id)∧W.cell? ⟨b,o+k*8+1,none⟩=some (.int .i64 X.m.rt)∧W.cell? ⟨b,o+k*8+2,none⟩=some (.int .i64 X.m.ep)∧W.cell? ⟨b,o+k*8+3,none⟩=some (.int .i64 X.m.ct)∧W.cell? ⟨b,o+k*8+4,none⟩=some (.int .i64 X.m.gn)∧W.cell? ⟨b,o+k*8+5,none⟩=some (.int .i64 X.m.st)∧W.cell? ⟨b,o+k*8+6,none⟩=some (.string X.m.bd))
    (first | with_reducible exact HU0.out | with_reducible exact HU1.out | with_reducible exact HU2.out)
    (first | (fail))
   go_wp2
   exact bodyPost_ret (v:=.tuple #[.agg #[.slice A4 LE.length c4,.slice A3 K.length c3],X.m.v,.int .i64 0]) (by simp only [results,Tryz.results139];go_simp <;> rfl) rfl HF.out
 ·have he:=rlE_bad (id:=id) h0
  obtain ⟨hH,hL,hM⟩:=rlE_ne (l:=l) (h:=h) (id:=id) (by rw [he];exact h0)
  have hne:(tbV l h != 0)=true:=bne_iff_ne.2 h0
  rw [hH,hL,hM,he]
  generalize tbV l h=x at*
  clear he hH hL hM h0
  go_enter Tryz.func139,Tryz.ntmps139
  obtain ⟨t0,t1,tl⟩:=H0.out.va.tb
  go_wp2_with fail
  clear t0 t1 tl
  obtain ⟨p,hp⟩:∃ p,p=w.heap.size:=⟨_,rfl⟩
  obtain ⟨r,hr⟩:∃ r,r=w.heap.size+1:=⟨_,rfl⟩
  obtain ⟨s,hs⟩:∃ s,s=w.heap.size+1+1:=⟨_,rfl⟩
  rw [←hs,←hr,←hp] at H0 ⊢
  clear hp hr hs
  generalize (((w.alloc (.cells #[.slice A l.length c,.slice A2 h.length c2] 31)).alloc (.cells #[.slice none 0 0,.slice none 0 0] 31)).alloc (.cells #[.int .i64 0,.int .i64 0,.int .i64 0,.int .i64 0,.int .i64 0,.int .i64 0,.string ⟨#[]⟩] 56))=w1 at*
  refine (HV.out _ _ H0.out.va).mono ?_
  rintro e w2 ⟨rfl,hb⟩
  have H1:=Lh (H0.out.below hb)
  clear hb
  obtain ⟨r0,r1,f0,f1,rl⟩:=H1.out.rt
  obtain ⟨s0,s1,s2,s3,s4,s5,s6,g0,g1,g2,g3,g4,g5,g6,sl⟩:=H1.out.rm
  have hrs:¬r=s:=by have:=H1.out.ne;omega
  have hsr:¬s=r:=by have:=H1.out.ne;omega
  have HB:=Lh (show Below w.heap.size w (set7 (set2 w2 r (.slice none 0 0) (.slice none 0 0)) s 0 zM) from sets_below (by have:=H1.out.ne;omega) zM.l 0 _ (set2_below H1.out.va.bel (by have:=H1.out.ne;omega)))
  go_wp2
  exact bodyPost_ret (v:=.tuple #[.agg #[.slice none 0 0,.slice none 0 0],.agg #[.int .i64 0,.int .i64 0,.int .i64 0,.int .i64 0,.int .i64 0,.int .i64 0,.string ⟨#[]⟩],.int .i64 x]) (by simp only [results,Tryz.results139];go_simp <;> rfl) rfl (tme_nil rfl rfl rfl rfl HB.out)
def SE7 (w:World) (S:Sh) (x:Int) (e:Ending) (w' : World):Prop:=∃ D,e=.returned (.tuple #[sv S D,.int .i64 x])∧SR w' w'.heap.size S D∧Below w.heap.size w w'
theorem SE.to7 {w:World} {S:Sh} {x:Int} {e:Ending} {w' : World} (h:SE w S x e w'):SE7 w S x e w':=by
 obtain ⟨D,h1,-,h2,h3⟩:=h
 exact ⟨D,h1,h2,h3⟩
def SE8 (w:World) (S0:Sh) (D0:Sx) (S:Sh) (x:Int) (e:Ending) (w' : World):Prop:=∃ D,e=.returned (.tuple #[sv S D,.int .i64 x])∧SR w' w'.heap.size S D∧(∀ z,z<w.heap.size→SOff S0 D0 z→SOff S D z)∧Below w.heap.size w w'
theorem SE.to8 {w:World} {S0:Sh} {D0:Sx} {S:Sh} {x:Int} {e:Ending} {w' : World} (h:SE w S x e w'):SE8 w S0 D0 S x e w':=by
 obtain ⟨D,h1,h0,h2,h3⟩:=h
 exact ⟨D,h1,h2,fun z hz _=>h0.off hz,h3⟩
set_option maxHeartbeats 8000000 in
set_option maxRecDepth 20000 in
theorem rack7_any (S:Sh) (D:Sx) (H:Hn) (now ep:Int) (w:World) (hs:SR w w.heap.size S D) :
  Calls Tryz.prog 85 #[sv S D,H.v,.int .i64 now,.int .i64 ep] w (SE8 w S D (if heS S H now ep true=0 then akF S H.id else zS) (heS S H now ep true)):=by
 have e1:(w.alloc (.cells #[.bool S.lv,.int .i64 S.lo,.int .i64 S.hi,.slice D.A S.cs.length D.c,.int .i64 S.hd,.int .i64 S.sz,.slice D.A2 S.l.length D.c2,.slice D.A3 S.h.length D.c3] 33)).heap.size=w.heap.size+1:=by simp
 have e2:((w.alloc (.cells #[.bool S.lv,.int .i64 S.lo,.int .i64 S.hi,.slice D.A S.cs.length D.c,.int .i64 S.hd,.int .i64 S.sz,.slice D.A2 S.l.length D.c2,.slice D.A3 S.h.length D.c3] 33)).alloc (.cells #[.int .i64 H.id,.int .i64 H.gn,.int .i64 H.rt,.int .i64 H.ht] 40)).heap.size=w.heap.size+1+1:=by simp
 have H0:=Lh (((SAt.start 33 hs).alloc (.cells #[.int .i64 H.id,.int .i64 H.gn,.int .i64 H.rt,.int .i64 H.ht] 40)).alloc (.cells #[.bool false,.int .i64 0,.int .i64 0,.slice none 0 0,.int .i64 0,.int .i64 0,.slice none 0 0,.slice none 0 0] 33))
 have Q0:=Lh ((H4.start (w.alloc (.cells #[.bool S.lv,.int .i64 S.lo,.int .i64 S.hi,.slice D.A S.cs.length D.c,.int .i64 S.hd,.int .i64 S.sz,.slice D.A2 S.l.length D.c2,.slice D.A3 S.h.length D.c3] 33)) H 40).up ((Below.refl _ _).alloc (Nat.le_refl _) (.cells #[.bool false,.int .i64 0,.int .i64 0,.slice none 0 0,.int .i64 0,.int .i64 0,.slice none 0 0,.slice none 0 0] 33)))
 have R0:=Lh (SB8.zero ((w.alloc (.cells #[.bool S.lv,.int .i64 S.lo,.int .i64 S.hi,.slice D.A S.cs.length D.c,.int .i64 S.hd,.int .i64 S.sz,.slice D.A2 S.l.length D.c2,.slice D.A3 S.h.length D.c3] 33)).alloc (.cells #[.int .i64 H.id,.int .i64 H.gn,.int .i64 H.rt,.int .i64 H.ht] 40)) 33)
 rw [e1] at Q0
 rw [e2] at R0
 have HHE:=Lh (fun p W (k:SAt w p S D W)=>rheld7_any S D H now ep true W k.sr)
 obtain ⟨x,hx⟩:∃ x,x=heS S H now ep true:=⟨_,rfl⟩
 rw [←hx] at HHE
 rw [←hx]
 have HO:=Lh (fun r (h:w.heap.size≤r)=>hs.offs h)
 have HRL:=Lh (fun p D W (q:SAt w p S D W)=>rtrelease_any D.A2 S.l.length D.c2 S.l D.A3 S.h.length D.c3 S.h H.id W q.sr.el q.sr.dl)
 obtain ⟨T,hT⟩:∃ T,T=akF S H.id:=⟨_,rfl⟩
 obtain ⟨U,hU⟩:∃ U,U=if x=0 then akF S H.id else zS:=⟨_,rfl⟩
 have HUU:=Lh (show U=if x=0 then T else zS from by rw [hU,hT])
 have HTT:=Lh (show T=⟨S.lv,S.lo,S.hi,S.cs,S.hd,S.sz,rlL S.l S.h H.id,rlH S.l S.h H.id⟩ from hT)
 rw [←hU]
 clear hU hT hs hx
 generalize rlL S.l S.h H.id=gl at*
 generalize rlH S.l S.h H.id=gh at*
 generalize rlE S.l S.h H.id=rE at*
 generalize rlM S.l S.h H.id=M at*
 go_enter Tryz.func85,Tryz.ntmps85
 obtain ⟨t0,t1,t2,t3,t4,t5,t6,t7,tl⟩:=H0.out.s8.facts
 obtain ⟨q0,q1,q2,q3,ql⟩:=Q0.out
 go_wp2_with fail
 clear t0 t1 t2 t3 t4 t5 t6 t7 tl q0 q1 q2 q3 ql
 obtain ⟨p,hp⟩:∃ p,p=w.heap.size:=⟨_,rfl⟩
 obtain ⟨q,hq⟩:∃ q,q=w.heap.size+1:=⟨_,rfl⟩
 obtain ⟨r,hr⟩:∃ r,r=w.heap.size+1+1:=⟨_,rfl⟩
 have HPR:=Lh (show (¬p=r∧¬r=p∧¬p=q∧¬q=p)∧w.heap.size≤p∧p<q∧q<r by omega)
 rw [←hr,←hq,←hp]
 rw [←hr] at R0
 rw [←hq] at Q0
 rw [←hp] at H0
 clear e1 e2 hp hq hr
 generalize (((w.alloc (.cells #[.bool S.lv,.int .i64 S.lo,.int .i64 S.hi,.slice D.A S.cs.length D.c,.int .i64 S.hd,.int .i64 S.sz,.slice D.A2 S.l.length D.c2,.slice D.A3 S.h.length D.c3] 33)).alloc (.cells #[.int .i64 H.id,.int .i64 H.gn,.int .i64 H.rt,.int .i64 H.ht] 40)).alloc (.cells #[.bool false,.int .i64 0,.int .i64 0,.slice none 0 0,.int .i64 0,.int .i64 0,.slice none 0 0,.slice none 0 0] 33))=w1 at*
 refine (HHE.out _ _ H0.out).mono ?_
 rintro e w2 ⟨rfl,hb⟩
 have H1:=Lh (H0.out.below hb)
 have Q1:=Lh (Q0.out.up hb)
 have R1:=Lh (R0.out.up hb)
 clear hb HHE H0 Q0 R0
 by_cases hx:x=0
 ·have HX:=Lh hx
  subst hx
  obtain ⟨t0,t1,t2,t3,t4,t5,t6,t7,tl⟩:=H1.out.s8.facts
  obtain ⟨q0,q1,q2,q3,ql⟩:=Q1.out
  go_wp2_with fail
  clear t0 t1 t2 t3 t4 t5 t6 t7 tl q0 q1 q2 q3 ql Q1
  refine (HRL.out _ _ _ H1.out).mono ?_
  rintro e w4 ⟨A3,c3,A4,c4,rfl,n3,n4,h3,h4,hb⟩
  have H4:=Lh (H1.out.below hb)
  have R4:=Lh (R1.out.up hb)
  have H5:=Lh (show SAt w p ⟨S.lv,S.lo,S.hi,S.cs,S.hd,S.sz,gl,gh⟩ ⟨D.A,D.c,A3,c3,A4,c4⟩ (((w4.setCell ⟨p,6,none⟩ (.slice A3 gl.length c3)).setCell ⟨p,7,none⟩ (.slice A4 gh.length c4))) from H4.out.setTab h3 h4 (offb_nw n3 H1.out.lt) (offb_nw n4 H1.out.lt))
  have N5:=Lh (show Nw (r+1) A3∧Nw (r+1) A4 from ⟨nw_low n3 R1.out.lt,nw_low n4 R1.out.lt⟩)
  clear n3 n4 h3 h4 hb
  have HF:=Lh (show SE8 w S D U 0 (.returned (.tuple #[.agg #[.bool S.lv,.int .i64 S.lo,.int .i64 S.hi,.slice D.A S.cs.length D.c,.int .i64 S.hd,.int .i64 S.sz,.slice A3 gl.length c3,.slice A4 gh.length c4],.int .i64 0])) (((((((((((w4.setCell ⟨p,6,none⟩ (.slice A3 gl.length c3)).setCell ⟨p,7,none⟩ (.slice A4 gh.length c4))).setCell ⟨r,0,none⟩ (.bool S.lv)).setCell ⟨r,1,none⟩ (.int .i64 S.lo)).setCell ⟨r,2,none⟩ (.int .i64 S.hi)).setCell ⟨r,3,none⟩ (.slice D.A S.cs.length D.c)).setCell ⟨r,4,none⟩ (.int .i64 S.hd)).setCell ⟨r,5,none⟩ (.int .i64 S.sz)).setCell ⟨r,6,none⟩ (.slice A3 gl.length c3)).setCell ⟨r,7,none⟩ (.slice A4 gh.length c4)) from by
   rw [HUU.out,if_pos trivial,HTT.out]
   have hne:=HPR.out.2
   exact ⟨⟨D.A,D.c,A3,c3,A4,c4⟩,rfl,SR.sets (S:=⟨S.lv,S.lo,S.hi,S.cs,S.hd,S.sz,gl,gh⟩) (D:=⟨D.A,D.c,A3,c3,A4,c4⟩) ⟨(HO.out r (by omega)).o1,offb_nw N5.out.1 (Nat.lt_succ_self r),offb_nw N5.out.2 (Nat.lt_succ_self r)⟩ (Sh.l8 ⟨S.lv,S.lo,S.hi,S.cs,S.hd,S.sz,gl,gh⟩ ⟨D.A,D.c,A3,c3,A4,c4⟩) 0 _ H5.out.sr,fun z hz hZ=>⟨hZ.o1,offb_nw N5.out.1 (show z<r+1 by omega),offb_nw N5.out.2 (show z<r+1 by omega)⟩,set8s_below (show w.heap.size≤r by omega) H5.out.bel ⟨S.lv,S.lo,S.hi,S.cs,S.hd,S.sz,gl,gh⟩ ⟨D.A,D.c,A3,c3,A4,c4⟩⟩)
  obtain ⟨⟨t0,t1,t2,t3,t4,t5,t6,t7,tl⟩,⟨f0,f1,f2,f3,f4,f5,f6,f7⟩⟩:=H4.out.s8.all
  obtain ⟨⟨r0,r1,r2,r3,r4,r5,r6,r7,rl⟩,⟨g0,g1,g2,g3,g4,g5,g6,g7⟩⟩:=R4.out.all
  obtain ⟨⟨hpr,hrp,hpq,hqp⟩,-,-,-⟩:=HPR.out
  go_wp2
  exact bodyPost_ret (v:=.tuple #[.agg #[.bool S.lv,.int .i64 S.lo,.int .i64 S.hi,.slice D.A S.cs.length D.c,.int .i64 S.hd,.int .i64 S.sz,.slice A3 gl.length c3,.slice A4 gh.length c4],.int .i64 0]) (by simp only [results,Tryz.results85];go_simp <;> rfl) rfl HF.out
 ·have hne:(x != 0)=true:=bne_iff_ne.2 hx
  have HF:=Lh (show SE8 w S D U x (.returned (.tuple #[.agg #[.bool false,.int .i64 0,.int .i64 0,.slice none 0 0,.int .i64 0,.int .i64 0,.slice none 0 0,.slice none 0 0],.int .i64 x])) (z8 w2 r) from by
   rw [HUU.out,if_neg hx]
   have hne:=HPR.out.2
   exact (se_zero (by omega) H1.out.bel).to8)
  clear hx
  obtain ⟨⟨r0,r1,r2,r3,r4,r5,r6,r7,rl⟩,⟨g0,g1,g2,g3,g4,g5,g6,g7⟩⟩:=R1.out.all
  go_wp2
  exact bodyPost_ret (v:=.tuple #[.agg #[.bool false,.int .i64 0,.int .i64 0,.slice none 0 0,.int .i64 0,.int .i64 0,.slice none 0 0,.slice none 0 0],.int .i64 x]) (by simp only [results,Tryz.results85];go_simp <;> rfl) rfl HF.out
end Go.Proofs.YtncgbldcjfbknaaGreat
