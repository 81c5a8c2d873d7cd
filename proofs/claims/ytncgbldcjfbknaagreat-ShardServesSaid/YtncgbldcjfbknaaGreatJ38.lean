/- What is proved here: ref07.Take by a contract where it returns an error; Rqup; shardqueueref03.Without by a contract; shardqueueref04.Remove by a contract; ref07.Take of a valid live shard. -/
import Derived.Test.YtncgbldcjfbknaaGreatJ37
namespace Go.Proofs.YtncgbldcjfbknaaGreat
open Go.RowKit
set_option linter.unusedVariables false
def SLe7 (w:World) (S:Sh) (l:List Le) (x:Int) (e:Ending) (w' : World):Prop:=∃ D A c,e=.returned (.tuple #[sv S D,.slice A l.length c,.int .i64 x])∧SR w' w'.heap.size S D∧El w' w'.heap.size (.slice A l.length c) l∧Below w.heap.size w w'
def SLe8 (w:World) (S0:Sh) (D0:Sx) (S:Sh) (l:List Le) (x:Int) (e:Ending) (w' : World):Prop:=∃ D A c,e=.returned (.tuple #[sv S D,.slice A l.length c,.int .i64 x])∧SR w' w'.heap.size S D∧El w' w'.heap.size (.slice A l.length c) l∧(∀ z,z<w.heap.size→SOff S0 D0 z→SOff S D z)∧Nw w.heap.size A∧Below w.heap.size w w'
theorem SLe.to8 {w:World} {S0:Sh} {D0:Sx} {S:Sh} {l:List Le} {x:Int} {e:Ending} {w' : World} (h:SLe w S l x e w'):SLe8 w S0 D0 S l x e w':=by
 obtain ⟨D,A,c,h1,h0,h2,hA,h3,h4⟩:=h
 exact ⟨D,A,c,h1,h2,h3,fun z hz _=>h0.off hz,hA,h4⟩
section
variable {S:Sh} {mx now vis ep lim:Int}
theorem tk_rng (hv:shV S=0) (hl:S.lv=true) (h:tkB mx now vis ep lim=false):tkE S mx now vis ep lim=1:=by
 unfold tkE;rw [h,exS_num (b:=false) hv hl rfl];rfl
theorem tk_exh (hv:shV S=0) (hl:S.lv=true) (h:tkB mx now vis ep lim=true) (hd:1073741824<now+vis):tkE S mx now vis ep lim=6:=by
 unfold tkE;rw [h,exS_ok (b:=true) hv hl rfl,if_neg (by decide),if_pos hd]
theorem tk_fine (hv:shV S=0) (hl:S.lv=true) (h:tkB mx now vis ep lim=true) (hd:¬1073741824<now+vis):tkE S mx now vis ep lim=0:=by
 unfold tkE;rw [h,exS_ok (b:=true) hv hl rfl,if_neg (by decide),if_neg hd]
theorem tk_ex (h:exS S true≠0):tkE S mx now vis ep lim=exS S true:=by
 have e:∀ c,exS S c=exS S true:=fun c=>by
  unfold exS at h ⊢
  by_cases h1:shV S≠0
  ·rw [if_pos h1,if_pos h1]
  ·rw [if_neg h1] at h
   rw [if_neg h1,if_neg h1]
   by_cases h2:S.lv=false
   ·rw [if_pos h2,if_pos h2]
   ·rw [if_neg h2] at h;exact absurd rfl h
 unfold tkE;rw [e,if_pos h]
end
set_option maxHeartbeats 8000000 in
set_option maxRecDepth 20000 in
theorem rtake7_bad (S:Sh) (D:Sx) (mx now vis ep lim:Int) (w:World) (hs:SR w w.heap.size S D) (hE:tkE S mx now vis ep lim≠0) :
  Calls Tryz.prog 83 #[sv S D,.int .i64 mx,.int .i64 now,.int .i64 vis,.int .i64 ep,.int .i64 lim] w (SLe8 w S D zS [] (tkE S mx now vis ep lim)):=by
 have e1:(w.alloc (.cells #[.bool S.lv,.int .i64 S.lo,.int .i64 S.hi,.slice D.A S.cs.length D.c,.int .i64 S.hd,.int .i64 S.sz,.slice D.A2 S.l.length D.c2,.slice D.A3 S.h.length D.c3] 33)).heap.size=w.heap.size+1:=by simp
 have H0:=Lh ((SAt.start 33 hs).alloc (.cells #[.bool false,.int .i64 0,.int .i64 0,.slice none 0 0,.int .i64 0,.int .i64 0,.slice none 0 0,.slice none 0 0] 33))
 have R0:=Lh (SB8.zero (w.alloc (.cells #[.bool S.lv,.int .i64 S.lo,.int .i64 S.hi,.slice D.A S.cs.length D.c,.int .i64 S.hd,.int .i64 S.sz,.slice D.A2 S.l.length D.c2,.slice D.A3 S.h.length D.c3] 33)) 33)
 rw [e1] at R0
 have HV:=Lh (fun p W (k:SAt w p S D W)=>rlive7_any S D W k.sr)
 have HEP:=Lh (fun W=>repochs_any ep W)
 have HLI:=Lh (fun W=>rlimits_any lim W)
 have HTI:=Lh (fun W=>rtimes_any now W)
 have HVI:=Lh (fun W=>rvis_any vis W)
 have HRG:=Lh (fun hv hl h=>tk_rng (S:=S) (mx:=mx) (now:=now) (vis:=vis) (ep:=ep) (lim:=lim) hv hl h)
 have HEX:=Lh (fun hv hl h hd=>tk_exh (S:=S) (mx:=mx) (now:=now) (vis:=vis) (ep:=ep) (lim:=lim) hv hl h hd)
 have HZE:=Lh (fun hv hl h hd=>tk_fine (S:=S) (mx:=mx) (now:=now) (vis:=vis) (ep:=ep) (lim:=lim) hv hl h hd)
 have HNX:=Lh (fun h=>tk_ex (S:=S) (mx:=mx) (now:=now) (vis:=vis) (ep:=ep) (lim:=lim) h)
 clear hs
 generalize tkE S mx now vis ep lim=y at*
 go_enter Tryz.func83,Tryz.ntmps83
 obtain ⟨t0,t1,t2,t3,t4,t5,t6,t7,tl⟩:=H0.out.s8.facts
 go_wp2_with fail
 clear t0 t1 t2 t3 t4 t5 t6 t7 tl
 obtain ⟨p,hp⟩:∃ p,p=w.heap.size:=⟨_,rfl⟩
 obtain ⟨r,hr⟩:∃ r,r=w.heap.size+1:=⟨_,rfl⟩
 have HPR:=Lh (show w.heap.size≤p∧p<r by omega)
 rw [←hr,←hp]
 rw [←hr] at R0
 rw [←hp] at H0
 clear e1 hp hr
 generalize (w.alloc (.cells #[.bool S.lv,.int .i64 S.lo,.int .i64 S.hi,.slice D.A S.cs.length D.c,.int .i64 S.hd,.int .i64 S.sz,.slice D.A2 S.l.length D.c2,.slice D.A3 S.h.length D.c3] 33)).alloc (.cells #[.bool false,.int .i64 0,.int .i64 0,.slice none 0 0,.int .i64 0,.int .i64 0,.slice none 0 0,.slice none 0 0] 33)=w1 at*
 refine (HV.out _ _ H0.out).mono ?_
 rintro e w2 ⟨rfl,hb⟩
 have H1:=Lh (H0.out.below hb)
 have R1:=Lh (R0.out.up hb)
 clear hb H0 R0
 by_cases hx:exS S true=0
 ·obtain ⟨hv,hlv,-⟩:=exS_zero hx
  rw [hx]
  clear hx HNX
  cases hb0:wi ep 0 65536 with
  | false=>
   have HY:=Lh (HRG.out hv hlv (by unfold tkB;rw [hb0];simp))
   rw [hb0] at HEP
   clear hv hlv HRG HEX
   go_wp2_with fail
   refine (HEP.out _).mono ?_
   rintro e w3 ⟨rfl,hw⟩
   replace hw:=hw.symm
   subst hw
   have HF:=Lh (show SLe8 w S D zS [] y (.returned (.tuple #[.agg #[.bool false,.int .i64 0,.int .i64 0,.slice none 0 0,.int .i64 0,.int .i64 0,.slice none 0 0,.slice none 0 0],.slice none 0 0,.int .i64 1])) (z8 w2 r) from by
    rw [HY.out]
    exact (sle_zero (by have:=HPR.out;omega) H1.out.bel).to8)
   obtain ⟨⟨r0,r1,r2,r3,r4,r5,r6,r7,rl⟩,⟨g0,g1,g2,g3,g4,g5,g6,g7⟩⟩:=R1.out.all
   go_wp2
   exact bodyPost_ret (v:=.tuple #[.agg #[.bool false,.int .i64 0,.int .i64 0,.slice none 0 0,.int .i64 0,.int .i64 0,.slice none 0 0,.slice none 0 0],.slice none 0 0,.int .i64 1]) (by simp only [results,Tryz.results83];go_simp <;> rfl) rfl HF.out
  | true=>
   cases hb1:wi lim 1 8 with
   | false=>
    have HY:=Lh (HRG.out hv hlv (by unfold tkB;rw [hb1];simp))
    rw [hb0] at HEP
    rw [hb1] at HLI
    clear hv hlv HRG HEX
    go_wp2_with fail
    refine (HEP.out _).mono ?_
    rintro e w3 ⟨rfl,hw⟩
    replace hw:=hw.symm
    subst hw
    go_wp2_with fail
    refine (HLI.out _).mono ?_
    rintro e w3 ⟨rfl,hw⟩
    replace hw:=hw.symm
    subst hw
    have HF:=Lh (show SLe8 w S D zS [] y (.returned (.tuple #[.agg #[.bool false,.int .i64 0,.int .i64 0,.slice none 0 0,.int .i64 0,.int .i64 0,.slice none 0 0,.slice none 0 0],.slice none 0 0,.int .i64 1])) (z8 w2 r) from by
     rw [HY.out]
     exact (sle_zero (by have:=HPR.out;omega) H1.out.bel).to8)
    obtain ⟨⟨r0,r1,r2,r3,r4,r5,r6,r7,rl⟩,⟨g0,g1,g2,g3,g4,g5,g6,g7⟩⟩:=R1.out.all
    go_wp2
    exact bodyPost_ret (v:=.tuple #[.agg #[.bool false,.int .i64 0,.int .i64 0,.slice none 0 0,.int .i64 0,.int .i64 0,.slice none 0 0,.slice none 0 0],.slice none 0 0,.int .i64 1]) (by simp only [results,Tryz.results83];go_simp <;> rfl) rfl HF.out
   | true=>
    cases hb2:wi now 0 1073741824 with
    | false=>
     have HY:=Lh (HRG.out hv hlv (by unfold tkB;rw [hb2];simp))
     rw [hb0] at HEP
     rw [hb1] at HLI
     rw [hb2] at HTI
     clear hv hlv HRG HEX
     go_wp2_with fail
     refine (HEP.out _).mono ?_
     rintro e w3 ⟨rfl,hw⟩
     replace hw:=hw.symm
     subst hw
     go_wp2_with fail
     refine (HLI.out _).mono ?_
     rintro e w3 ⟨rfl,hw⟩
     replace hw:=hw.symm
     subst hw
     go_wp2_with fail
     refine (HTI.out _).mono ?_
     rintro e w3 ⟨rfl,hw⟩
     replace hw:=hw.symm
     subst hw
     have HF:=Lh (show SLe8 w S D zS [] y (.returned (.tuple #[.agg #[.bool false,.int .i64 0,.int .i64 0,.slice none 0 0,.int .i64 0,.int .i64 0,.slice none 0 0,.slice none 0 0],.slice none 0 0,.int .i64 1])) (z8 w2 r) from by
      rw [HY.out]
      exact (sle_zero (by have:=HPR.out;omega) H1.out.bel).to8)
     obtain ⟨⟨r0,r1,r2,r3,r4,r5,r6,r7,rl⟩,⟨g0,g1,g2,g3,g4,g5,g6,g7⟩⟩:=R1.out.all
     go_wp2
     exact bodyPost_ret (v:=.tuple #[.agg #[.bool false,.int .i64 0,.int .i64 0,.slice none 0 0,.int .i64 0,.int .i64 0,.slice none 0 0,.slice none 0 0],.slice none 0 0,.int .i64 1]) (by simp only [results,Tryz.results83];go_simp <;> rfl) rfl HF.out
    | true=>
     cases hb3:wi vis 0 1000 with
     | false=>
      have HY:=Lh (HRG.out hv hlv (by unfold tkB;rw [hb3];simp))
      rw [hb0] at HEP
      rw [hb1] at HLI
      rw [hb2] at HTI
      rw [hb3] at HVI
      clear hv hlv HRG HEX
      go_wp2_with fail
      refine (HEP.out _).mono ?_
      rintro e w3 ⟨rfl,hw⟩
      replace hw:=hw.symm
      subst hw
      go_wp2_with fail
      refine (HLI.out _).mono ?_
      rintro e w3 ⟨rfl,hw⟩
      replace hw:=hw.symm
      subst hw
      go_wp2_with fail
      refine (HTI.out _).mono ?_
      rintro e w3 ⟨rfl,hw⟩
      replace hw:=hw.symm
      subst hw
      go_wp2_with fail
      refine (HVI.out _).mono ?_
      rintro e w3 ⟨rfl,hw⟩
      replace hw:=hw.symm
      subst hw
      have HF:=Lh (show SLe8 w S D zS [] y (.returned (.tuple #[.agg #[.bool false,.int .i64 0,.int .i64 0,.slice none 0 0,.int .i64 0,.int .i64 0,.slice none 0 0,.slice none 0 0],.slice none 0 0,.int .i64 1])) (z8 w2 r) from by
       rw [HY.out]
       exact (sle_zero (by have:=HPR.out;omega) H1.out.bel).to8)
      obtain ⟨⟨r0,r1,r2,r3,r4,r5,r6,r7,rl⟩,⟨g0,g1,g2,g3,g4,g5,g6,g7⟩⟩:=R1.out.all
      go_wp2
      exact bodyPost_ret (v:=.tuple #[.agg #[.bool false,.int .i64 0,.int .i64 0,.slice none 0 0,.int .i64 0,.int .i64 0,.slice none 0 0,.slice none 0 0],.slice none 0 0,.int .i64 1]) (by simp only [results,Tryz.results83];go_simp <;> rfl) rfl HF.out
     | true=>
      by_cases hm1:mx<1
      ·have HY:=Lh (HRG.out hv hlv (by unfold tkB;rw [wi_low hm1];simp))
       rw [hb0] at HEP
       rw [hb1] at HLI
       rw [hb2] at HTI
       rw [hb3] at HVI
       clear hv hlv HRG HEX
       go_wp2_with fail
       refine (HEP.out _).mono ?_
       rintro e w3 ⟨rfl,hw⟩
       replace hw:=hw.symm
       subst hw
       go_wp2_with fail
       refine (HLI.out _).mono ?_
       rintro e w3 ⟨rfl,hw⟩
       replace hw:=hw.symm
       subst hw
       go_wp2_with fail
       refine (HTI.out _).mono ?_
       rintro e w3 ⟨rfl,hw⟩
       replace hw:=hw.symm
       subst hw
       go_wp2_with fail
       refine (HVI.out _).mono ?_
       rintro e w3 ⟨rfl,hw⟩
       replace hw:=hw.symm
       subst hw
       have HF:=Lh (show SLe8 w S D zS [] y (.returned (.tuple #[.agg #[.bool false,.int .i64 0,.int .i64 0,.slice none 0 0,.int .i64 0,.int .i64 0,.slice none 0 0,.slice none 0 0],.slice none 0 0,.int .i64 1])) (z8 w2 r) from by
        rw [HY.out]
        exact (sle_zero (by have:=HPR.out;omega) H1.out.bel).to8)
       obtain ⟨⟨r0,r1,r2,r3,r4,r5,r6,r7,rl⟩,⟨g0,g1,g2,g3,g4,g5,g6,g7⟩⟩:=R1.out.all
       go_wp2
       exact bodyPost_ret (v:=.tuple #[.agg #[.bool false,.int .i64 0,.int .i64 0,.slice none 0 0,.int .i64 0,.int .i64 0,.slice none 0 0,.slice none 0 0],.slice none 0 0,.int .i64 1]) (by simp only [results,Tryz.results83];go_simp <;> rfl) rfl HF.out
      ·by_cases hm2:6<mx
       ·have HY:=Lh (HRG.out hv hlv (by unfold tkB;rw [show wi mx 1 6=false by unfold wi;exact decide_eq_false (by omega)];simp))
        rw [hb0] at HEP
        rw [hb1] at HLI
        rw [hb2] at HTI
        rw [hb3] at HVI
        clear hv hlv HRG HEX
        go_wp2_with fail
        refine (HEP.out _).mono ?_
        rintro e w3 ⟨rfl,hw⟩
        replace hw:=hw.symm
        subst hw
        go_wp2_with fail
        refine (HLI.out _).mono ?_
        rintro e w3 ⟨rfl,hw⟩
        replace hw:=hw.symm
        subst hw
        go_wp2_with fail
        refine (HTI.out _).mono ?_
        rintro e w3 ⟨rfl,hw⟩
        replace hw:=hw.symm
        subst hw
        go_wp2_with fail
        refine (HVI.out _).mono ?_
        rintro e w3 ⟨rfl,hw⟩
        replace hw:=hw.symm
        subst hw
        have HF:=Lh (show SLe8 w S D zS [] y (.returned (.tuple #[.agg #[.bool false,.int .i64 0,.int .i64 0,.slice none 0 0,.int .i64 0,.int .i64 0,.slice none 0 0,.slice none 0 0],.slice none 0 0,.int .i64 1])) (z8 w2 r) from by
         rw [HY.out]
         exact (sle_zero (by have:=HPR.out;omega) H1.out.bel).to8)
        obtain ⟨⟨r0,r1,r2,r3,r4,r5,r6,r7,rl⟩,⟨g0,g1,g2,g3,g4,g5,g6,g7⟩⟩:=R1.out.all
        go_wp2
        exact bodyPost_ret (v:=.tuple #[.agg #[.bool false,.int .i64 0,.int .i64 0,.slice none 0 0,.int .i64 0,.int .i64 0,.slice none 0 0,.slice none 0 0],.slice none 0 0,.int .i64 1]) (by simp only [results,Tryz.results83];go_simp <;> rfl) rfl HF.out
       ·have hB:tkB mx now vis ep lim=true:=by unfold tkB;rw [hb0,hb1,hb2,hb3,wi_true (show 1≤mx by omega) (show mx≤6 by omega)];rfl
        have hn1:=wi_of hb2
        have hn2:=wi_of hb3
        have hwr:wrap64 (now+vis)=now+vis:=IntWalk.wrap64_in _ (by omega)
        rw [hb0] at HEP
        rw [hb1] at HLI
        rw [hb2] at HTI
        rw [hb3] at HVI
        clear hn1 hn2
        by_cases hdl:1073741824<now+vis
        ·have HY:=Lh (HEX.out hv hlv hB hdl)
         clear hv hlv HRG HEX
         go_wp2_with fail
         refine (HEP.out _).mono ?_
         rintro e w3 ⟨rfl,hw⟩
         replace hw:=hw.symm
         subst hw
         go_wp2_with fail
         refine (HLI.out _).mono ?_
         rintro e w3 ⟨rfl,hw⟩
         replace hw:=hw.symm
         subst hw
         go_wp2_with fail
         refine (HTI.out _).mono ?_
         rintro e w3 ⟨rfl,hw⟩
         replace hw:=hw.symm
         subst hw
         go_wp2_with fail
         refine (HVI.out _).mono ?_
         rintro e w3 ⟨rfl,hw⟩
         replace hw:=hw.symm
         subst hw
         have HF:=Lh (show SLe8 w S D zS [] y (.returned (.tuple #[.agg #[.bool false,.int .i64 0,.int .i64 0,.slice none 0 0,.int .i64 0,.int .i64 0,.slice none 0 0,.slice none 0 0],.slice none 0 0,.int .i64 6])) (z8 w2 r) from by
          rw [HY.out]
          exact (sle_zero (by have:=HPR.out;omega) H1.out.bel).to8)
         obtain ⟨⟨r0,r1,r2,r3,r4,r5,r6,r7,rl⟩,⟨g0,g1,g2,g3,g4,g5,g6,g7⟩⟩:=R1.out.all
         go_wp2
         exact bodyPost_ret (v:=.tuple #[.agg #[.bool false,.int .i64 0,.int .i64 0,.slice none 0 0,.int .i64 0,.int .i64 0,.slice none 0 0,.slice none 0 0],.slice none 0 0,.int .i64 6]) (by simp only [results,Tryz.results83];go_simp <;> rfl) rfl HF.out
        ·exact absurd (HZE.out hv hlv hB (by omega)) hE
 ·have hne:(exS S true != 0)=true:=bne_iff_ne.2 hx
  have HY:=Lh (HNX.out hx)
  clear hx HNX HRG HEX HZE hE
  generalize exS S true=x at*
  have HF:=Lh (show SLe8 w S D zS [] y (.returned (.tuple #[.agg #[.bool false,.int .i64 0,.int .i64 0,.slice none 0 0,.int .i64 0,.int .i64 0,.slice none 0 0,.slice none 0 0],.slice none 0 0,.int .i64 x])) (z8 w2 r) from by
   rw [HY.out]
   exact (sle_zero (by have:=HPR.out;omega) H1.out.bel).to8)
  obtain ⟨⟨r0,r1,r2,r3,r4,r5,r6,r7,rl⟩,⟨g0,g1,g2,g3,g4,g5,g6,g7⟩⟩:=R1.out.all
  go_wp2
  exact bodyPost_ret (v:=.tuple #[.agg #[.bool false,.int .i64 0,.int .i64 0,.slice none 0 0,.int .i64 0,.int .i64 0,.slice none 0 0,.slice none 0 0],.slice none 0 0,.int .i64 x]) (by simp only [results,Tryz.results83];go_simp <;> rfl) rfl HF.out
end Go.Proofs.YtncgbldcjfbknaaGreat
/- Plain: cells behind stores. -/
namespace Go.Proofs.YtncgbldcjfbknaaGreat
open Go.RowKit
set_option linter.unusedVariables false
theorem C7.set3 {W:World} {b m r:Nat} {M:Msg} (k:C7 W b m M) (hb:r≠b) (x y z:Value):C7 (((W.setCell ⟨r,0,none⟩ x).setCell ⟨r,1,none⟩ y).setCell ⟨r,2,none⟩ z) b m M:=by
 have e:∀ o,(((W.setCell ⟨r,0,none⟩ x).setCell ⟨r,1,none⟩ y).setCell ⟨r,2,none⟩ z).cell? ⟨b,o,none⟩=W.cell? ⟨b,o,none⟩:=fun o=>((World.cell?_setCell_other _ _ _ _ (fun e=>hb (by injection e))).trans (World.cell?_setCell_other _ _ _ _ (fun e=>hb (by injection e)))).trans (World.cell?_setCell_other _ _ _ _ (fun e=>hb (by injection e)))
 obtain ⟨c0,c1,c2,c3,c4,c5,c6⟩:=k
 exact ⟨(e _).trans c0,(e _).trans c1,(e _).trans c2,(e _).trans c3,(e _).trans c4,(e _).trans c5,(e _).trans c6⟩
theorem sc2_of {W:World} {p n c b m:Nat} {A:Option Addr} {hd sz:Int} {M:Msg} (h:RB W p A n c hd sz) (k:C7 W b m M):W.cell? ⟨p,0,none⟩=some (.slice A n c)∧W.cell? ⟨p,1,none⟩=some (.int .i64 hd)∧W.cell? ⟨p,2,none⟩=some (.int .i64 sz)∧W.cell? ⟨b,m,none⟩=some (.int .i64 M.id)∧W.cell? ⟨b,m+1,none⟩=some (.int .i64 M.rt)∧W.cell? ⟨b,m+2,none⟩=some (.int .i64 M.ep)∧W.cell? ⟨b,m+3,none⟩=some (.int .i64 M.ct)∧W.cell? ⟨b,m+4,none⟩=some (.int .i64 M.gn)∧W.cell? ⟨b,m+5,none⟩=some (.int .i64 M.st)∧W.cell? ⟨b,m+6,none⟩=some (.string M.bd):=⟨h.c0,h.c1,h.c2,k⟩
attribute [local go_sem ↓] Go.wp_at_zero Go.wp_at_succ
end Go.Proofs.YtncgbldcjfbknaaGreat
namespace Go.Proofs.YtncgbldcjfbknaaGreat
open Go.RowKit
set_option linter.unusedVariables false
def TruRw (_:World):Prop:=True
attribute [local go_sem ↓] Go.wp_at_zero Go.wp_at_succ
set_option maxHeartbeats 4000000 in
set_option maxRecDepth 20000 in
theorem rwithout_any (A:Option Addr) (n c:Nat) (l:List Msg) (x:Nat) (w:World) (hv:Ls w w.heap.size (.slice A n c) l) (hx:x<l.length) (hl:l.length≤1000) :
  Calls Tryz.prog 180 #[.slice A n c,.int .i64 x] w (LsP (l.eraseIdx x) w):=by
 obtain ⟨rfl,hc1,_⟩:=hv.len
 obtain ⟨i0,hi0,hz0⟩:=Option.map_eq_some_iff.1 info_msg
 simp only [Prod.mk.injEq] at hz0
 have HI:=Lh hi0
 have HZ:=Lh hz0
 have hcut1:=run_lupto A l.length c .i64 x (by omega)
 obtain ⟨A4,hA4,hcut2⟩:=run_lcut A l.length c .i64 (x+1) (by omega)
 have HT:=Lh (hv.upto x (by omega))
 have HD:=Lh (hv.cut (x+1) (by omega))
 rw [←hA4] at HD
 have HE:=Lh (show lcs (l.take x)++lcs (l.drop (x+1))=lcs (l.eraseIdx x) by rw [List.eraseIdx_eq_take_drop_succ,lcs_app])
 have HXL:=Lh (show x+(l.length - (x+1))=(l.eraseIdx x).length by rw [List.length_eraseIdx];simp [hx];omega)
 have hx12:(x:Int)≤1000:=by omega
 have hxw:IntKind.i64.wrap ((x:Int)+1)=(x:Int)+1:=IntWalk.i64_in _ (by omega)
 have hcut2' : ∀ W,(Instr.slice 25 (.slice A l.length c) (some (.int .i64 ((x:Int)+1))) none none).run Tryz.prog W=.ok (.slice A4 (l.length - (x+1)) (c - (x+1))) W:=fun W=>hcut2 W
 have hx0:(0:Int)≤(x:Int):=by omega
 have hxl:(x:Int)<(l.length:Int):=by omega
 clear hv hi0 hz0 hA4 hcut2
 go_enter Tryz.func180,Tryz.ntmps180
 go_wp2
 go_region_held3 (fun W=>TruRw W) (exact trivial)
  (first
  | (refine step_append_rd _ (by rfl) _ _ _ (by rfl) w.heap.size 56 i0 _ 7 64 Tryz.underlying25 HI.out HZ.out.1 HZ.out.2.1 HZ.out.2.2 rfl (by omega) (.slice none 0 0) 0 [] (by rfl) (World.ownsRow_nil _ _ _ _) _ A x c (lcs (l.take x)) (by rfl) (HT.out.drew).rd (lcs_one _) (by unfold maxLen;omega) (by omega) (Nat.le_refl _) ?_;intro v5 w5 hown5 hgrow5 hat5;obtain ⟨A5,c5,rfl⟩:=own_form hown5;have HB5:=Lh ((Below.refl w.heap.size w).drew.grown hgrow5 (Nat.le_refl _) (fun k hk=>by simp [Value.ownBlock] at hk));rw [Nat.zero_add];have HO5:=Lh (show w5.ownsRow w.heap.size 56 7 (.slice A5 x c5) x (lcs (l.take x)) by simpa using hown5);clear hown5 hgrow5 hat5)
  | (refine step_append_rd _ (by rfl) _ _ _ (by rfl) w.heap.size 56 i0 _ 7 64 Tryz.underlying25 HI.out HZ.out.1 HZ.out.2.1 HZ.out.2.2 rfl (by omega) (.slice A5 x c5) x (lcs (l.take x)) (by rfl) HO5.out _ A4 (l.length - (x+1)) (c - (x+1)) (lcs (l.drop (x+1))) (by rfl) (HD.out.below HB5.out).rd (lcs_one _) (by unfold maxLen;omega) (by omega) HB5.out.size ?_;intro v6 w6 hown6 hgrow6 hat6;have HO6:=Lh hown6;have HB6:=Lh (HB5.out.grown hgrow6 HB5.out.size (fun k hk=>(HO5.out.lt k hk).1));clear hown6 hgrow6 hat6))
 all_goals
  have HO7:=Lh (show w6.ownsRow w.heap.size 56 7 v6 (l.eraseIdx x).length (lcs (l.eraseIdx x)) by rw [←HE.out,←HXL.out];exact HO6.out)
  go_wp2
  go_ret
  exact ⟨v6,rfl,nwv_own HO7.out (Nat.le_refl _),Ls.of_own HO7.out,HB6.out⟩
attribute [local go_sem ↓] Go.wp_at_zero Go.wp_at_succ
set_option maxHeartbeats 8000000 in
set_option maxRecDepth 20000 in
theorem rremove_any (A:Option Addr) (n c:Nat) (cs:List Msg) (hd sz id:Int) (w:World) (hv:Ls w w.heap.size (.slice A n c) cs) :
  Calls Tryz.prog 136 #[.agg #[.slice A n c,.int .i64 hd,.int .i64 sz],.int .i64 id] w (RMP w (rmC cs hd sz id) (ifE (rmE cs hd sz id) hd) (ifE (rmE cs hd sz id) (sz - 1)) (rmM cs hd sz id) (rmE cs hd sz id)):=by
 obtain ⟨rfl,_,_⟩:=hv.len
 have HV:=Lh hv
 have HP:=Lh (fun w1 (h:Ls w1 w1.heap.size (.slice A cs.length c) cs)=>rvalid_any A cs.length c cs hd sz w1 h)
 clear hv
 by_cases h0:rgV cs hd sz=0
 ·obtain ⟨hn,hz,_,_⟩:=rgV_zero h0
  obtain ⟨⟨n1,n2⟩,⟨k1,k2⟩,⟨s1,s2⟩⟩:=nm_of hn
  obtain ⟨hd,rfl⟩:=Int.eq_ofNat_of_zero_le k1
  obtain ⟨sz,rfl⟩:=Int.eq_ofNat_of_zero_le s1
  simp only [Int.toNat_natCast] at hz
  have HO:=Lh (fun w1 (h:Ls w1 w1.heap.size (.slice A cs.length c) cs)=>rorder_any A cs.length c cs hd sz w1 h hn)
  rw [h0] at HP
  rcases ixF_cases (ord cs hd sz) id with ⟨hi,_⟩ | ⟨x,hx,hi,hq1,hq2⟩
  ·have hE:rmE cs hd sz id=4:=by unfold rmE;rw [if_neg (by simpa using h0),if_pos (by simp only [Int.toNat_natCast];rw [hi];decide)]
   have HC:=Lh (show rmC cs hd sz id=[] from if_neg (by rw [hE];decide))
   have HE3:=Lh (show rmM cs hd sz id=zM from if_neg (by rw [hE];decide))
   have HE1:=Lh (show ifE 4 (hd:Int)=0 from if_neg (by decide))
   have HE2:=Lh (show ifE 4 ((sz:Int) - 1)=0 from if_neg (by decide))
   have HI:=Lh hi
   rw [hE]
   clear h0 hn hz hi hE n1 n2 k1 k2 s1 s2
   generalize rmC cs hd sz id=ds at*
   generalize rmM cs hd sz id=Y at*
   go_enter Tryz.func136,Tryz.ntmps136
   go_wp2_with fail
   have HS:=Lh (PoAt.start w A cs.length c hd sz 27 56)
   obtain ⟨p,hp⟩:∃ p,p=w.heap.size:=⟨_,rfl⟩
   obtain ⟨r,hr⟩:∃ r,r=w.heap.size+1:=⟨_,rfl⟩
   obtain ⟨s,hs⟩:∃ s,s=w.heap.size+1+1:=⟨_,rfl⟩
   rw [←hs,←hr,←hp] at HS ⊢
   clear hp hr hs
   refine (HP.out _ (HV.out.up HS.out.bel)).mono ?_
   rintro e w1 ⟨rfl,hb⟩
   have HS1:=Lh (HS.out.below hb)
   obtain ⟨⟨r0,r1,r2,r3,r4,r5,hpl⟩,_,_⟩:=HS1.out.facts
   clear hb HS
   go_wp2_with fail
   refine (HO.out _ (HV.out.up HS1.out.bel)).mono ?_
   rintro e w3 ⟨v,rfl,hnv,hl,hb⟩
   obtain ⟨A3,c3,rfl,hc3,_⟩:=hl.form
   have HL3:=Lh hl
   have HS3:=Lh (HS1.out.below hb)
   clear hb hl hnv hc3 r0 r1 r2 r3 r4 r5 hpl
   go_wp2_with fail
   refine (rindex_any _ _ _ _ id _ _ HL3.out).mono ?_
   rintro e w4 ⟨rfl,rfl⟩
   rw [HI.out]
   obtain ⟨⟨r0,r1,r2,r3,r4,r5,hpl⟩,⟨t0,t1,t2,t3,t4,t5,hrl⟩,⟨⟨v0,v1,v2,v3,v4,v5,v6⟩,f0,f1,f2,f3,f4,f5,f6,hsl⟩⟩:=HS3.out.facts
   have hrs:r≠s:=by have:=HS3.out.old;omega
   have hsr:s≠r:=fun e=>hrs e.symm
   have HB:=Lh (HS3.out.end1 (.slice none 0 0) (.int .i64 0) (.int .i64 0) zM)
   go_wp2
   exact bodyPost_ret (v:=.tuple #[.agg #[.slice none 0 0,.int .i64 0,.int .i64 0],.agg #[.int .i64 0,.int .i64 0,.int .i64 0,.int .i64 0,.int .i64 0,.int .i64 0,.string ByteArray.empty],.int .i64 4]) (by simp only [results,Tryz.results136];go_simp <;> rfl) rfl ⟨none,0,by rw [HC.out,HE1.out,HE2.out,HE3.out];rfl,nw_none,by rw [HC.out];exact Ls.nil,HB.out⟩
  ·have HOL:=Lh (ord_len cs hd sz)
   have hxs:x<sz:=by rw [ord_len] at hx;exact hx
   have hE:rmE cs hd sz id=0:=by unfold rmE;rw [if_neg (by simpa using h0),if_neg (by simp only [Int.toNat_natCast];rw [hi];omega)]
   have hC:rmC cs hd sz id=fil cs.length hd ((ord cs hd sz).eraseIdx x):=by unfold rmC;rw [if_pos hE];simp only [Int.toNat_natCast];rw [hi,Int.toNat_natCast]
   have hM:rmM cs hd sz id=cel cs hd x:=by unfold rmM;rw [if_pos hE];simp only [Int.toNat_natCast];rw [hi,Int.toNat_natCast]
   have HE1:=Lh (show ifE 0 (hd:Int)=hd from if_pos rfl)
   have HE2:=Lh (show ifE 0 ((sz:Int) - 1)=(sz:Int) - 1 from if_pos rfl)
   have HI:=Lh hi
   have HY:=Lh (fun (h:x<(ord cs hd sz).length)=>(show (ord cs hd sz)[x]=rmM cs hd sz id by rw [hM,ord_at]))
   have HWT:=Lh (fun A' n' c' w1 (h:Ls w1 w1.heap.size (.slice A' n' c') (ord cs hd sz))=>rwithout_any A' n' c' (ord cs hd sz) x w1 h hx (by rw [ord_len];omega))
   have hel:((ord cs hd sz).eraseIdx x).length=sz - 1:=by rw [List.length_eraseIdx,if_pos hx,ord_len]
   have HWI:=Lh (fun A' n' c' w1 (h:Ls w1 w1.heap.size (.slice A' n' c') ((ord cs hd sz).eraseIdx x))=>with_any A cs.length c hd sz hd A' n' c' ((ord cs hd sz).eraseIdx x) w1 (by omega) (by omega) (by omega) h)
   rw [←hC,show (((ord cs hd sz).eraseIdx x).length:Int)=(sz:Int) - 1 by omega] at HWI
   rw [hE]
   have hx12:(x:Int)≤12:=by omega
   have hx0:(0:Int)≤(x:Int):=by omega
   have hs12:(sz:Int)≤12:=by omega
   have hxz:(x:Int)<(sz:Int):=by omega
   have HXS:=Lh hxs
   clear h0 hn hz hi hE hC hM n1 n2 k1 k2 s1 s2 hq1 hq2 hx hel hxs
   generalize ord cs hd sz=l at*
   generalize rmC cs hd sz id=ds at*
   generalize rmM cs hd sz id=X at*
   go_enter Tryz.func136,Tryz.ntmps136
   go_wp2_with fail
   have HS:=Lh (PoAt.start w A cs.length c hd sz 27 56)
   obtain ⟨p,hp⟩:∃ p,p=w.heap.size:=⟨_,rfl⟩
   obtain ⟨r,hr⟩:∃ r,r=w.heap.size+1:=⟨_,rfl⟩
   obtain ⟨s,hs⟩:∃ s,s=w.heap.size+1+1:=⟨_,rfl⟩
   rw [←hs,←hr,←hp] at HS ⊢
   clear hp hr hs
   refine (HP.out _ (HV.out.up HS.out.bel)).mono ?_
   rintro e w1 ⟨rfl,hb⟩
   have HS1:=Lh (HS.out.below hb)
   obtain ⟨⟨r0,r1,r2,r3,r4,r5,hpl⟩,_,_⟩:=HS1.out.facts
   clear hb HS
   go_wp2_with fail
   refine (HO.out _ (HV.out.up HS1.out.bel)).mono ?_
   rintro e w3 ⟨v,rfl,hnv,hl,hb⟩
   obtain ⟨A3,c3,rfl,hc3,_⟩:=hl.form
   have HL3:=Lh hl
   have HS3:=Lh (HS1.out.below hb)
   have HN3:=Lh (nwv_of hnv)
   clear hb hl hnv hc3 r0 r1 r2 r3 r4 r5 hpl
   go_wp2_with fail
   refine (rindex_any _ _ _ _ id _ _ HL3.out).mono ?_
   rintro e w4 ⟨rfl,rfl⟩
   rw [HI.out]
   have hxl:x<l.length:=by rw [HOL.out];exact HXS.out
   obtain ⟨b,o,rfl,hbb,hc7⟩:=HL3.out.at_ hxl
   rw [HY.out hxl] at hc7
   rw [HOL.out]
   have HC7:=Lh hc7
   have HBS:=Lh (show s<b from Nat.lt_of_lt_of_le HS1.out.ms.1 (HN3.out _ rfl))
   have HBL:=Lh hbb
   have HL3':=Lh (show Ls w3 w3.heap.size (.slice (some ⟨b,o,none⟩) sz c3) l by have:=HL3.out;rw [HOL.out] at this;exact this)
   clear hc7 hbb HS1 hxl HL3
   have HSA:=Lh (sc2_of HS3.out.rb.drew (C7.drew0 HC7.out))
   have HRP:=Lh (show r≠p by have:=HS3.out.old;omega)
   have HSP:=Lh (show s≠p by have:=HS3.out.old;omega)
   have HRB:=Lh (show r≠b by have:=HS3.out.old;have:=HBS.out;omega)
   have HBN:=Lh (show b≠s by have:=HBS.out;omega)
   have hrs:r≠s:=by have:=HS3.out.old;omega
   have hsr:s≠r:=fun e=>hrs e.symm
   go_wp2
   go_region_held3 (fun W=>W.cell? ⟨p,0,none⟩=some (.slice A cs.length c)∧W.cell? ⟨p,1,none⟩=some (.int .i64 hd)∧W.cell? ⟨p,2,none⟩=some (.int .i64 sz)∧W.cell? ⟨b,o+x*7,none⟩=some (.int .i64 X.id)∧W.cell? ⟨b,o+x*7+1,none⟩=some (.int .i64 X.rt)∧W.cell? ⟨b,o+x*7+2,none⟩=some (.int .i64 X.ep)∧W.cell? ⟨b,o+x*7+3,none⟩=some (.int .i64 X.ct)∧W.cell? ⟨b,o+x*7+4,none⟩=some (.int .i64 X.gn)∧W.cell? ⟨b,o+x*7+5,none⟩=some (.int .i64 X.st)∧W.cell? ⟨b,o+x*7+6,none⟩=some (.string X.bd))
    (first | with_reducible exact HSA.out | with_reducible exact HSW.out | with_reducible exact HSB.out | with_reducible exact HSC.out | with_reducible exact HSD.out | with_reducible exact HSE.out | with_reducible exact HSF.out)
    (first
    | (go_at_call 180;(with_reducible refine (HWT.out _ _ _ _ (HL3'.out.drew)).mono ?_);rintro e w5 ⟨v5,rfl,hnw,hl5,hb⟩;obtain ⟨A5,c5,rfl,_,_⟩:=hl5.form;have HS5:=Lh (HS3.out.below (drew_below hb));have HC5:=Lh (C7.below (W:=w3) HC7.out (drew_below hb) HBL.out);have HB5:=Lh (show b<w5.heap.size from Nat.lt_of_lt_of_le HBL.out (drew_below hb).size);have HL5:=Lh hl5;have HSW:=Lh (sc2_of HS5.out.rb HC5.out);clear hnw hl5 hb)
    | (go_at_call 177;(with_reducible refine (HWI.out _ _ _ _ HL5.out).mono ?_);rintro e w6 ⟨A6,c6,rfl,hnw,hl6,hb⟩;have HS6:=Lh (HS5.out.below hb);have HC6:=Lh (C7.below (W:=w5) HC5.out hb HB5.out);have HNW:=Lh hnw;have HL6:=Lh hl6;have HSB:=Lh (sc2_of HS6.out.rb HC6.out);have HSC:=Lh (sc2_of (HS6.out.rb.set3 HRP.out (.slice A6 ds.length c6) (.int .i64 hd) (.int .i64 ((sz:Int) - 1))) (C7.set3 HC6.out HRB.out (.slice A6 ds.length c6) (.int .i64 hd) (.int .i64 ((sz:Int) - 1))));have HSD:=Lh (sc2_of (HS6.out.rb.lit7 HSP.out X) (C7.lit7 HC6.out HBN.out X));have HSE:=Lh (sc2_of ((HS6.out.rb.set3 HRP.out (.slice A6 ds.length c6) (.int .i64 hd) (.int .i64 ((sz:Int) - 1))).lit7 HSP.out X) (C7.lit7 (C7.set3 HC6.out HRB.out (.slice A6 ds.length c6) (.int .i64 hd) (.int .i64 ((sz:Int) - 1))) HBN.out X));have HSF:=Lh (sc2_of ((HS6.out.rb.lit7 HSP.out X).set3 HRP.out (.slice A6 ds.length c6) (.int .i64 hd) (.int .i64 ((sz:Int) - 1))) (C7.set3 (C7.lit7 HC6.out HBN.out X) HRB.out (.slice A6 ds.length c6) (.int .i64 hd) (.int .i64 ((sz:Int) - 1))));obtain ⟨_,⟨t0,t1,t2,t3,t4,t5,hrl⟩,⟨⟨v0,v1,v2,v3,v4,v5,v6⟩,f0,f1,f2,f3,f4,f5,f6,hsl⟩⟩:=HS6.out.facts;clear hnw hl6 hb))
   all_goals
    have HL:=Lh (((HL6.out.off3 HNW.out HS5.out.rs.lt (.slice A6 ds.length c6) (.int .i64 hd) (.int .i64 ((sz:Int) - 1))).off7 HNW.out HS5.out.ms.1 X).more (show w6.heap.size≤((((((((((w6.setCell ⟨r,0,none⟩ (.slice A6 ds.length c6)).setCell ⟨r,1,none⟩ (.int .i64 hd)).setCell ⟨r,2,none⟩ (.int .i64 ((sz:Int) - 1))).setCell ⟨s,0,none⟩ (.int .i64 X.id)).setCell ⟨s,1,none⟩ (.int .i64 X.rt)).setCell ⟨s,2,none⟩ (.int .i64 X.ep)).setCell ⟨s,3,none⟩ (.int .i64 X.ct)).setCell ⟨s,4,none⟩ (.int .i64 X.gn)).setCell ⟨s,5,none⟩ (.int .i64 X.st)).setCell ⟨s,6,none⟩ (.string X.bd)).heap.size by simp))
    have HB:=Lh (HS6.out.end1 (.slice A6 ds.length c6) (.int .i64 hd) (.int .i64 ((sz:Int) - 1)) X)
    have HN6:=Lh (nw_low HNW.out HS5.out.bel.size)
    clear HSA HSB HSC HSD HSE HSF HSW
    go_wp2
    exact bodyPost_ret (v:=.tuple #[.agg #[(.slice A6 ds.length c6),(.int .i64 hd),(.int .i64 ((sz:Int) - 1))],X.v,.int .i64 0]) (by simp only [results,Tryz.results136];go_simp <;> rfl) rfl ⟨A6,c6,by rw [HE1.out,HE2.out],HN6.out,HL.out,HB.out⟩
 ·have hE:rmE cs hd sz id=rgV cs hd sz:=if_pos h0
  have HC:=Lh (show rmC cs hd sz id=[] from if_neg (by rw [hE];exact h0))
  have HE1:=Lh (show ifE (rgV cs hd sz) hd=0 from if_neg h0)
  have HE2:=Lh (show ifE (rgV cs hd sz) (sz - 1)=0 from if_neg h0)
  have HE3:=Lh (show rmM cs hd sz id=zM from if_neg (by rw [hE];exact h0))
  have hne:(rgV cs hd sz != 0)=true:=bne_iff_ne.2 h0
  rw [hE]
  clear hE
  generalize rgV cs hd sz=x at*
  generalize rmC cs hd sz id=ds at*
  generalize rmM cs hd sz id=Y at*
  clear h0
  go_enter Tryz.func136,Tryz.ntmps136
  go_wp2_with fail
  have HS:=Lh (PoAt.start w A cs.length c hd sz 27 56)
  obtain ⟨p,hp⟩:∃ p,p=w.heap.size:=⟨_,rfl⟩
  obtain ⟨r,hr⟩:∃ r,r=w.heap.size+1:=⟨_,rfl⟩
  obtain ⟨s,hs⟩:∃ s,s=w.heap.size+1+1:=⟨_,rfl⟩
  rw [←hs,←hr,←hp] at HS ⊢
  clear hp hr hs
  refine (HP.out _ (HV.out.up HS.out.bel)).mono ?_
  rintro e w1 ⟨rfl,hb⟩
  have HS1:=Lh (HS.out.below hb)
  obtain ⟨⟨r0,r1,r2,r3,r4,r5,hpl⟩,⟨t0,t1,t2,t3,t4,t5,hrl⟩,⟨⟨v0,v1,v2,v3,v4,v5,v6⟩,f0,f1,f2,f3,f4,f5,f6,hsl⟩⟩:=HS1.out.facts
  have hrs:r≠s:=by have:=HS1.out.old;omega
  have hsr:s≠r:=fun e=>hrs e.symm
  have HB:=Lh (HS1.out.end1 (.slice none 0 0) (.int .i64 0) (.int .i64 0) zM)
  clear hb HS
  go_wp2
  exact bodyPost_ret (v:=.tuple #[.agg #[.slice none 0 0,.int .i64 0,.int .i64 0],.agg #[.int .i64 0,.int .i64 0,.int .i64 0,.int .i64 0,.int .i64 0,.int .i64 0,.string ByteArray.empty],.int .i64 x]) (by simp only [results,Tryz.results136];go_simp <;> rfl) rfl ⟨none,0,by rw [HC.out,HE1.out,HE2.out,HE3.out];rfl,nw_none,by rw [HC.out];exact Ls.nil,HB.out⟩
structure Tk7 (Z:Nat→Prop) (w:World) (p r B:Nat) (S:Sh) (D:Sx) (A0:Option Addr) (c0:Nat) (L:List Msg) (lv:Value) (K:List Le) (W:World):Prop where
 sa:SAt w p S D W
 rs:SB8 W r zS zX
 l0:Ls W B (.slice A0 L.length c0) L
 o0:OffB p L.length A0
 own:W.ownsRow B 58 8 lv K.length (ecs K)
 dj:∀ q,lv.ownBlock=some q→SOff S D q
 dr:SOff S D r
 fz:∀ z,Z z→z<w.heap.size∧SOff S D z
 ne:p<r∧r<B∧B≤W.heap.size
section
variable {Z:Nat→Prop} {w W W' : World} {p r B c0:Nat} {S:Sh} {D:Sx} {A0:Option Addr} {L:List Msg} {K K' : List Le} {lv:Value}
theorem Tk7.below (h:Tk7 Z w p r B S D A0 c0 L lv K W) (hb:Below W.heap.size W W'):Tk7 Z w p r B S D A0 c0 L lv K W':=
 ⟨h.sa.below hb,h.rs.up hb,h.l0.below (hb.mono h.ne.2.2),h.o0,own_below h.own hb,h.dj,h.dr,h.fz,h.ne.1,h.ne.2.1,Nat.le_trans h.ne.2.2 hb.size⟩
theorem Tk7.setRing {A:Option Addr} {c:Nat} {cs:List Msg} (h:Tk7 Z w p r B S D A0 c0 L lv K W) (hd sz:Int) (hl:Ls W W.heap.size (.slice A cs.length c) cs) {lo:Nat} (hn:Nw lo A) (hlo:B≤lo) (hrow:∀ q,lv.ownBlock=some q→q<lo) :
  Tk7 Z w p r B ⟨S.lv,S.lo,S.hi,cs,hd,sz,S.l,S.h⟩ ⟨A,c,D.A2,D.c2,D.A3,D.c3⟩ A0 c0 L lv K (((W.setCell ⟨p,3,none⟩ (.slice A cs.length c)).setCell ⟨p,4,none⟩ (.int .i64 hd)).setCell ⟨p,5,none⟩ (.int .i64 sz)):=by
 have hne:=h.ne
 exact ⟨h.sa.setRing hd sz hl (offb_nw hn (by omega)),((h.rs.other (q:=⟨p,3,none⟩) (show p≠r by omega) _).other (q:=⟨p,4,none⟩) (show p≠r by omega) _).other (q:=⟨p,5,none⟩) (show p≠r by omega) _,
  ((h.l0.offp (p:=⟨p,3,none⟩) h.o0 _).offp (p:=⟨p,4,none⟩) h.o0 _).offp (p:=⟨p,5,none⟩) h.o0 _,h.o0,
  own_set (own_set (own_set h.own (q:=⟨p,3,none⟩) (show p<B by omega) _) (q:=⟨p,4,none⟩) (show p<B by omega) _) (q:=⟨p,5,none⟩) (show p<B by omega) _,
  fun q e=>⟨offb_nw hn (hrow q e),(h.dj q e).o2,(h.dj q e).o3⟩,⟨offb_nw hn (by omega),h.dr.o2,h.dr.o3⟩,fun z hz=>⟨(h.fz z hz).1,offb_nw hn (by have h1:=(h.fz z hz).1;have h2:=h.sa.old;omega),(h.fz z hz).2.o2,(h.fz z hz).2.o3⟩,hne.1,hne.2.1,by simpa using hne.2.2⟩
theorem Tk7.setTab {A2 A3:Option Addr} {c2 c3:Nat} {l:List Le} {hh:List Du} (h:Tk7 Z w p r B S D A0 c0 L lv K W) (hl:El W W.heap.size (.slice A2 l.length c2) l) (hd:Dl W W.heap.size (.slice A3 hh.length c3) hh) {lo:Nat} (n2:Nw lo A2) (n3:Nw lo A3) (hlo:B≤lo) (hrow:∀ q,lv.ownBlock=some q→q<lo) :
  Tk7 Z w p r B ⟨S.lv,S.lo,S.hi,S.cs,S.hd,S.sz,l,hh⟩ ⟨D.A,D.c,A2,c2,A3,c3⟩ A0 c0 L lv K ((W.setCell ⟨p,6,none⟩ (.slice A2 l.length c2)).setCell ⟨p,7,none⟩ (.slice A3 hh.length c3)):=by
 have hne:=h.ne
 exact ⟨h.sa.setTab hl hd (offb_nw n2 (by omega)) (offb_nw n3 (by omega)),(h.rs.other (q:=⟨p,6,none⟩) (show p≠r by omega) _).other (q:=⟨p,7,none⟩) (show p≠r by omega) _,
  (h.l0.offp (p:=⟨p,6,none⟩) h.o0 _).offp (p:=⟨p,7,none⟩) h.o0 _,h.o0,
  own_set (own_set h.own (q:=⟨p,6,none⟩) (show p<B by omega) _) (q:=⟨p,7,none⟩) (show p<B by omega) _,
  fun q e=>⟨(h.dj q e).o1,offb_nw n2 (hrow q e),offb_nw n3 (hrow q e)⟩,⟨h.dr.o1,offb_nw n2 (by omega),offb_nw n3 (by omega)⟩,fun z hz=>⟨(h.fz z hz).1,(h.fz z hz).2.o1,offb_nw n2 (by have h1:=(h.fz z hz).1;have h2:=h.sa.old;omega),offb_nw n3 (by have h1:=(h.fz z hz).1;have h2:=h.sa.old;omega)⟩,hne.1,hne.2.1,by simpa using hne.2.2⟩
theorem Tk7.app {lv' : Value} (h:Tk7 Z w p r B S D A0 c0 L lv K W) (ho:W'.ownsRow B 58 8 lv' K'.length (ecs K')) (hg:W.grownBy W' lv.ownBlock) (hw:∀ q,lv'.ownBlock=some q→lv.ownBlock=some q∨W.heap.size≤q):Tk7 Z w p r B S D A0 c0 L lv' K' W':=by
 have hne:=h.ne
 have hlt:∀ q,lv.ownBlock=some q→B≤q:=fun q e=>(h.own.lt q e).1
 refine ⟨h.sa.grown hg (fun q e=>⟨h.dj q e,by have:=hlt q e;omega⟩),h.rs.grown hg (fun q e=>by have:=hlt q e;omega),h.l0.grownR hne.2.2 hg (fun q e=>?_),h.o0,ho,fun q e=>?_,h.dr,h.fz,hne.1,hne.2.1,Nat.le_trans hne.2.2 hg.size⟩
 ·exact rd_off h.l0.rd (hlt q e)
 ·rcases hw q e with e' | e'
  ·exact h.dj q e'
  ·exact h.sa.sr.offs e'
theorem Tk7.out {S0:Sh} {D0:Sx} (h:Tk7 Z w p r B S D A0 c0 L lv K W) (hZ:∀ z,z<w.heap.size→SOff S0 D0 z→Z z):SLe8 w S0 D0 S K 0 (.returned (.tuple #[sv S D,lv,.int .i64 0])) (set8s W r S D):=by
 have hne:=h.ne
 have hold:=h.sa.old
 obtain ⟨A,c,rfl⟩:=own_form h.own
 refine ⟨D,A,c,rfl,SR.sets h.dr (S.l8 D) 0 W h.sa.sr,?_,fun z h1 h2=>(h.fz z (hZ z h1 h2)).2,nwv_of (nwv_own h.own (by omega)),set8s_below (by omega) h.sa.bel S D⟩
 have hw:=own_sets (r:=r) (show r<B by omega) (S.l8 D) 0 W h.own
 rw [set8s_eq]
 exact El.of_own hw
end
set_option maxHeartbeats 2000000 in
theorem rready_nw (S:Sh) (D:Sx) (w:World) (hs:SR w w.heap.size S D) :
  Calls Tryz.prog 68 #[sv S D] w fun e w'=>∃ A c,e=.returned (.slice A (lsF S.cs S.hd S.sz).length c)∧Nw w.heap.size A∧Ls w' w'.heap.size (.slice A (lsF S.cs S.hd S.sz).length c) (lsF S.cs S.hd S.sz)∧Below w.heap.size w w':=by
 have H0:=Lh (SAt.start 33 hs)
 have HG:=Lh (fun p W (k:SAt w p S D W)=>rlist_any D.A S.cs.length D.c S.cs S.hd S.sz W k.sr.ls)
 clear hs
 generalize lsF S.cs S.hd S.sz=L at*
 go_enter Tryz.func68,Tryz.ntmps68
 obtain ⟨t0,t1,t2,t3,t4,t5,t6,t7,tl⟩:=H0.out.s8.facts
 go_wp2_with fail
 clear t0 t1 t2 t3 t4 t5 t6 t7 tl
 refine (HG.out _ _ H0.out).mono ?_
 rintro e w2 ⟨v,rfl,hn,hl,hb⟩
 obtain ⟨A,c,rfl,_,_⟩:=hl.form
 have HL:=Lh hl
 have HN:=Lh (nw_low (nwv_of hn) H0.out.bel.size)
 have HB:=Lh (H0.out.below hb).bel
 clear hn hl hb
 go_wp2
 go_ret
 exact ⟨A,c,rfl,HN.out,HL.out,HB.out⟩
theorem MBx.set1 {W:World} {q:Nat} {M:Msg} (h:MBx W q M) {a:Addr} (ha:¬a.block=q) (v:Value):MBx (W.setCell a v) q M:=h.keep (fun o=>World.cell?_setCell_other _ _ _ _ (fun e=>ha (by rw [e]))) (fun o=>by rw [World.frozen?_setCell]) (by simp)
theorem lz_snoc {dl:Int} {T:List Msg} {M:Msg}:lzF dl (T++[M])=lzF dl T++[⟨dlM M,dl⟩]:=by unfold lzF;rw [List.map_append];rfl
set_option maxHeartbeats 8000000 in
set_option maxRecDepth 20000 in
theorem rtake7_ok (V:Vs) (k:V.Ok) (D:Sx) (mx:Nat) (now vis ep lim:Int) (w:World) (hs:SR w w.heap.size V.sh D) (hB:tkB mx now vis ep lim=true) (hdl:now+vis≤1073741824) :
  Calls Tryz.prog 83 #[sv V.sh D,.int .i64 (mx:Int),.int .i64 now,.int .i64 vis,.int .i64 ep,.int .i64 lim] w (SLe8 w V.sh D (V.take mx (fun M=>rvF M ep lim) (now+vis)).sh (lzF (now+vis) (pk mx (fun M=>rvF M ep lim) V.L).1) 0):=by
 obtain ⟨i0,hi0,hz0⟩:=Option.map_eq_some_iff.1 info_lease
 simp only [Prod.mk.injEq] at hz0
 have HI:=Lh hi0
 have HZ:=Lh hz0
 obtain ⟨b2,b3,b0,b1,b4⟩:wi now 0 1073741824=true∧wi vis 0 1000=true∧wi ep 0 65536=true∧wi lim 1 8=true∧wi mx 1 6=true:=by
  unfold tkB at hB
  simp only [Bool.and_eq_true] at hB
  exact hB
 have hmx:=wi_of b4
 have hlm:=wi_of b1
 have hw:wrap64 (now+vis)=now+vis:=by
  have h1:=wi_of b2
  have h2:=wi_of b3
  exact IntWalk.wrap64_in _ (by omega)
 have HEP:=Lh (fun W=>repochs_any ep W)
 have HLI:=Lh (fun W=>rlimits_any lim W)
 have HTI:=Lh (fun W=>rtimes_any now W)
 have HVI:=Lh (fun W=>rvis_any vis W)
 rw [b0] at HEP
 rw [b1] at HLI
 rw [b2] at HTI
 rw [b3] at HVI
 have HLV:=Lh (fun p W (q:SAt w p V.sh D W)=>rlive7_any V.sh D W q.sr)
 rw [k.ex true,if_pos rfl] at HLV
 have HRE:=Lh (fun p W (q:SAt w p V.sh D W)=>rready_nw V.sh D W q.sr)
 rw [show lsF V.sh.cs V.sh.hd V.sh.sz=V.L from k.ls] at HRE
 have HO:=Lh (fun r (h:w.heap.size≤r)=>hs.offs h)
 obtain ⟨S0,hS0⟩:∃ S0,S0=V.sh:=⟨_,rfl⟩
 obtain ⟨D0,hD0⟩:∃ D0,D0=D:=⟨_,rfl⟩
 obtain ⟨Z,hZZ⟩:∃ Z:Nat→Prop,Z=fun z=>z<w.heap.size∧SOff S0 D0 z:=⟨_,rfl⟩
 have HZI:=Lh (show ∀ z,z<w.heap.size→SOff S0 D0 z→Z z from by rw [hZZ];exact fun z a b=>⟨a,b⟩)
 have HZO:=Lh (show ∀ z,Z z→z<w.heap.size∧SOff V.sh D z from by rw [hZZ,hS0,hD0];exact fun z a=>a)
 rw [show SLe8 w V.sh D=SLe8 w S0 D0 from by rw [hS0,hD0]]
 clear hS0 hD0 hZZ
 have hlL:=Nat.le_trans k.lenL k.n2
 have HLL:=Lh hlL
 obtain ⟨dl,hdd⟩:∃ dl,dl=now+vis:=⟨_,rfl⟩
 obtain ⟨f,hff⟩:∃ f:Msg→Bool,f=(fun M=>rvF M ep lim):=⟨_,rfl⟩
 have HRV:=Lh (fun M W=>show Calls Tryz.prog 134 #[M.v,.int .i64 ep,.int .i64 lim] W fun e w'=>e=.returned (.bool (f M))∧Below W.heap.size W w' by rw [hff];exact rreceivable_any M ep lim W)
 have HDI:=Lh (fun M (hM:M∈V.L) (h:f M=true)=>show (dlM M).id=M.id by
  rw [hff] at h
  rw [dl_rv (ep:=ep) (lim:=lim) (k.gL.1 M hM) h hlm.2])
 have hwd:wrap64 (now+vis)=dl:=by rw [hw,hdd]
 rw [←hdd] at hdl
 rw [←hff,←hdd]
 have HEN:=Lh (fun i h=>tk_end (V:=V) (mx:=mx) (f:=f) (dl:=dl) (i:=i) h)
 have HNO:=Lh (fun i (hi:i<V.L.length) h=>tk_no (V:=V) (mx:=mx) (f:=f) (dl:=dl) (i:=i) hi h)
 have HYS:=Lh (fun i (hi:i<V.L.length) h1 h2 S S' hS hS'=>tk_yes (dl:=dl) (mx:=mx) (f:=f) (i:=i) k hi h1 h2 (S:=S) (S':=S') hS hS')
 have HPN:=Lh (fun i (hi:i<V.L.length) h=>pk_no (mx:=mx) (p:=f) (L:=V.L) hi h)
 have HPY:=Lh (fun i (hi:i<V.L.length) h1 h2=>pk_yes (mx:=mx) (p:=f) (L:=V.L) hi h1 h2)
 have HPK:=Lh (fun i=>show (pk mx f (V.L.take i)).1.length≤12 from by
  have h1:=(pk_sub mx f (V.L.take i)).2.1.length_le
  have h2:(V.L.take i).length≤V.L.length:=by simp;omega
  omega)
 have hdl' : ¬1073741824<dl:=by omega
 obtain ⟨S,hS⟩:∃ S,S=V.sh:=⟨_,rfl⟩
 have HS0:=Lh (show S=tkS V mx f dl 0 by rw [tk_zero];exact hS)
 rw [←hS] at HLV HRE HO HZO hs
 rw [←hS]
 have e1:(w.alloc (.cells #[.bool S.lv,.int .i64 S.lo,.int .i64 S.hi,.slice D.A S.cs.length D.c,.int .i64 S.hd,.int .i64 S.sz,.slice D.A2 S.l.length D.c2,.slice D.A3 S.h.length D.c3] 33)).heap.size=w.heap.size+1:=by simp
 have H0:=Lh ((SAt.start 33 hs).alloc (.cells #[.bool false,.int .i64 0,.int .i64 0,.slice none 0 0,.int .i64 0,.int .i64 0,.slice none 0 0,.slice none 0 0] 33))
 have R0:=Lh (SB8.zero (w.alloc (.cells #[.bool S.lv,.int .i64 S.lo,.int .i64 S.hi,.slice D.A S.cs.length D.c,.int .i64 S.hd,.int .i64 S.sz,.slice D.A2 S.l.length D.c2,.slice D.A3 S.h.length D.c3] 33)) 33)
 rw [e1] at R0
 clear hi0 hz0 b0 b1 b2 b3 b4 hlm hw hS hs hdd hff hdl hB k
 generalize (V.take mx f dl).sh=SR' at*
 generalize hTP:(pk mx f V.L).1=TP at*
 have HTP:=Lh hTP
 clear hTP
 obtain ⟨L,hL⟩:∃ L,L=V.L:=⟨_,rfl⟩
 rw [←hL] at HRE HDI HEN HNO HYS HPN HPY HPK HTP HLL hlL
 clear hL
 have hl64:L.length≤9223372036854775807:=by omega
 clear hlL
 go_enter Tryz.func83,Tryz.ntmps83
 obtain ⟨t0,t1,t2,t3,t4,t5,t6,t7,tl⟩:=H0.out.s8.facts
 go_wp2_with fail
 clear t0 t1 t2 t3 t4 t5 t6 t7 tl
 obtain ⟨p,hp⟩:∃ p,p=w.heap.size:=⟨_,rfl⟩
 obtain ⟨r,hr⟩:∃ r,r=w.heap.size+1:=⟨_,rfl⟩
 have HPR:=Lh (show (¬p=r∧¬r=p)∧w.heap.size≤p∧p<r by omega)
 rw [←hr,←hp]
 rw [←hr] at R0
 rw [←hp] at H0
 clear e1 hp hr
 generalize (w.alloc (.cells #[.bool S.lv,.int .i64 S.lo,.int .i64 S.hi,.slice D.A S.cs.length D.c,.int .i64 S.hd,.int .i64 S.sz,.slice D.A2 S.l.length D.c2,.slice D.A3 S.h.length D.c3] 33)).alloc (.cells #[.bool false,.int .i64 0,.int .i64 0,.slice none 0 0,.int .i64 0,.int .i64 0,.slice none 0 0,.slice none 0 0] 33)=w1 at*
 refine (HLV.out _ _ H0.out).mono ?_
 rintro e w2 ⟨rfl,hb⟩
 have H1:=Lh (H0.out.below hb)
 have R1:=Lh (R0.out.up hb)
 clear hb H0 R0 HLV
 have hm1:¬(mx:Int)<1:=by omega
 have hm2:¬6<(mx:Int):=by omega
 obtain ⟨t0,t1,t2,t3,t4,t5,t6,t7,tl⟩:=H1.out.s8.facts
 go_wp2_with fail
 refine (HEP.out _).mono ?_
 rintro e w3 ⟨rfl,hw⟩
 replace hw:=hw.symm
 subst hw
 go_wp2_with fail
 refine (HLI.out _).mono ?_
 rintro e w3 ⟨rfl,hw⟩
 replace hw:=hw.symm
 subst hw
 go_wp2_with fail
 refine (HTI.out _).mono ?_
 rintro e w3 ⟨rfl,hw⟩
 replace hw:=hw.symm
 subst hw
 go_wp2_with fail
 refine (HVI.out _).mono ?_
 rintro e w3 ⟨rfl,hw⟩
 replace hw:=hw.symm
 subst hw
 go_wp2_with fail
 clear t0 t1 t2 t3 t4 t5 t6 t7 tl HEP HLI HTI HVI hm1 hm2
 refine (HRE.out _ _ H1.out).mono ?_
 rintro e w3 ⟨A0,c0,rfl,hn,hl,hb⟩
 have HP0:=Lh (show Tk7 Z w p r w3.heap.size S D A0 c0 L (.slice none 0 0) [] w3 from
  ⟨H1.out.below hb,R1.out.up hb,hl,offb_nw hn H1.out.lt,World.ownsRow_nil _ _ _ _,fun q e=>by simp [Value.ownBlock] at e,HO.out r (by have:=HPR.out;omega),HZO.out,HPR.out.2.2,Nat.lt_of_lt_of_le R1.out.lt hb.size,Nat.le_refl _⟩)
 clear hn hl hb H1 R1 HRE
 go_wp2
 obtain ⟨B,hB⟩:∃ B,B=w3.heap.size:=⟨_,rfl⟩
 rw [←hB] at HP0
 clear hB
 have HP00:=Lh (show Tk7 Z w p r B S D A0 c0 L (.slice none 0 0) (lzF dl (pk mx f (L.take 0)).1) w3 from HP0.out)
 go_loopw [16,18] (fun lv i wr=>∃ (k:Nat) (S:Sh) (D:Sx),k≤L.length∧i=.int .i64 k∧Hid (S=tkS V mx f dl k)∧Hid (Tk7 Z w p r B S D A0 c0 L lv (lzF dl (pk mx f (L.take k)).1) wr)) (fun _ i _=>L.length - (intOf i).toNat)
 case atStart=>exact ⟨0,S,D,Nat.zero_le _,rfl,HS0,HP00⟩
 case round=>
  clear HP0 HP00 HS0
  obtain ⟨k,S,D,hk,rfl,HS,HP⟩:=hrel
  have HKT:=Lh (show (lzF dl (pk mx f (L.take k)).1).length=(pk mx f (L.take k)).1.length by simp [lzF])
  have HTL:=Lh (HPK.out k)
  obtain ⟨A5,cc5,rfl⟩:=own_form HP.out.own
  by_cases hlt:k<L.length
  ·by_cases hmt:(pk mx f (L.take k)).1.length<mx
   ·have hmt' : ((lzF dl (pk mx f (L.take k)).1).length:Int)<(mx:Int):=by rw [HKT.out];omega
    have HAT:=Lh (fun W S D lv K (q:Tk7 Z w p r B S D A0 c0 L lv K W)=>q.l0.at_ hlt)
    obtain ⟨b,o,rfl,hbl,c0',c1',c2',c3',c4',c5',c6'⟩:=HP.out.l0.at_ hlt
    have HNK:=Lh (HNO.out k hlt)
    have HPNK:=Lh (HPN.out k hlt)
    have HPYK:=Lh (HPY.out k hlt hmt)
    have HMEM:=Lh (HDI.out L[k] (List.getElem_mem hlt))
    have HYK:=Lh (fun h S' hS'=>HYS.out k hlt hmt h S S' HS.out hS')
    have HTX:=Lh (HRV.out L[k])
    have HDV:=Lh (fun W=>rdeliver_any L[k] W)
    clear HNO HPN HPY HDI HYS HRV HEN HPK
    generalize (pk mx f (L.take k)).1=T at*
    generalize L[k]=X at*
    obtain ⟨K,hK⟩:∃ K,K=lzF dl T:=⟨_,rfl⟩
    have HK:=Lh hK
    rw [←hK] at HP HKT hmt'
    rw [←hK]
    clear hK
    cases hf:f X with
    | false=>
     have HN1:=Lh (HNK.out (fun h=>by rw [hf] at h;exact absurd h.2 (by decide)))
     have HN2:=Lh (HPNK.out (fun h=>by rw [hf] at h;exact absurd h.2 (by decide)))
     rw [hf] at HTX
     clear hf HNK HPNK HPYK HYK HMEM
     go_wp2_with fail
     refine (HTX.out _).mono ?_
     rintro e w5 ⟨rfl,hb⟩
     have HP5:=Lh (HP.out.below hb)
     clear hb c0' c1' c2' c3' c4' c5' c6' hbl
     go_wp2
     go_roundw
     case rel=>exact ⟨k+1,S,D,by omega,by go_num,Lh (by rw [HN1.out];exact HS.out),by rw [HN2.out,←HK.out];exact HP5⟩
     case measure=>simp [intOf];omega
    | true=>
     obtain ⟨S',hS'⟩:∃ S',S' = tkS V mx f dl (k+1):=⟨_,rfl⟩
     have hSN:=HYK.out hf S' hS'
     have HSK:=Lh hS'
     have HN2:=Lh (HPYK.out hf)
     have hid':=HMEM.out hf
     have HLS:=Lh (lz_snoc (dl:=dl) (T:=T) (M:=X))
     obtain ⟨N,hN⟩:∃ N,N=dlM X:=⟨_,rfl⟩
     rw [←hN] at hSN HLS HDV hid'
     rw [←hid'] at hSN
     have HSN:=Lh hSN
     rw [hf] at HTX
     clear hf HNK HPNK HPYK HYK HMEM hS' hSN hid' hN
     generalize dlE X=xe at*
     have HRE:=Lh (fun D W (q:SAt w p S D W)=>rremove_any D.A S.cs.length D.c S.cs S.hd S.sz N.id W q.sr.ls)
     generalize ifE (rmE S.cs S.hd S.sz N.id) S.hd=hd at*
     generalize ifE (rmE S.cs S.hd S.sz N.id) (S.sz - 1)=sz at*
     generalize rmC S.cs S.hd S.sz N.id=cs at*
     generalize rmM S.cs S.hd S.sz N.id=rM at*
     generalize rmE S.cs S.hd S.sz N.id=rE at*
     have HGR:=Lh (fun D W (q:SAt w p ⟨S.lv,S.lo,S.hi,cs,hd,sz,S.l,S.h⟩ D W)=>rtgrant_any D.A2 S.l.length D.c2 S.l D.A3 S.h.length D.c3 S.h ⟨N,dl⟩ W q.sr.el q.sr.dl)
     generalize grL S.l S.h ⟨N,dl⟩=gl at*
     generalize grH S.l S.h ⟨N,dl⟩=gh at*
     generalize grE S.l S.h ⟨N,dl⟩=ge' at*
     go_wp2_with fail
     refine (HTX.out _).mono ?_
     rintro e w5 ⟨rfl,hb⟩
     have HP5:=Lh (HP.out.below hb)
     clear hb c0' c1' c2' c3' c4' c5' c6' hbl
     obtain ⟨b',o',hbo,hbl,c0',c1',c2',c3',c4',c5',c6'⟩:=HAT.out _ _ _ _ _ HP5.out
     injection hbo with hbo
     injection hbo with hb1 ho1
     subst hb1;subst ho1
     go_wp2_with fail
     refine (HDV.out _).mono ?_
     rintro e w6 ⟨rfl,hb⟩
     have HP6:=Lh (HP5.out.below hb)
     clear hb c0' c1' c2' c3' c4' c5' c6' hbl
     have HP7:=Lh (HP6.out.below ((Below.refl _ _).alloc (Nat.le_refl _) (.cells #[.int .i64 N.id,.int .i64 N.rt,.int .i64 N.ep,.int .i64 N.ct,.int .i64 N.gn,.int .i64 N.st,.string N.bd] 56)))
     have HM7:=Lh (MBx.start w6 N 56)
     have HBB:=Lh (show ¬w6.heap.size=p∧¬p=w6.heap.size by have h1:=HP6.out.ne;omega)
     obtain ⟨⟨t0,t1,t2,t3,t4,t5,t6,t7,tl⟩,⟨f0,f1,f2,f3,f4,f5,f6,f7⟩⟩:=HP6.out.sa.s8.all
     go_wp2_with fail
     clear t0 t1 t2 t3 t4 t5 t6 t7 tl f0 f1 f2 f3 f4 f5 f6 f7
     generalize w6.alloc (.cells #[.int .i64 N.id,.int .i64 N.rt,.int .i64 N.ep,.int .i64 N.ct,.int .i64 N.gn,.int .i64 N.st,.string N.bd] 56)=w7 at*
     generalize w6.heap.size=mb at*
     refine (HRE.out _ _ HP7.out.sa).mono ?_
     rintro e w8 ⟨A6,c6,rfl,hn6,hl6,hb⟩
     have HP8:=Lh (HP7.out.below hb)
     have HM8:=Lh (HM7.out.up hb)
     have HP9:=Lh (show Tk7 Z w p r B ⟨S.lv,S.lo,S.hi,cs,hd,sz,S.l,S.h⟩ ⟨A6,c6,D.A2,D.c2,D.A3,D.c3⟩ (some ⟨b,o,none⟩) c0 L (.slice A5 K.length cc5) K (((w8.setCell ⟨p,3,none⟩ (.slice A6 cs.length c6)).setCell ⟨p,4,none⟩ (.int .i64 hd)).setCell ⟨p,5,none⟩ (.int .i64 sz)) from HP8.out.setRing hd sz hl6 hn6 HP7.out.ne.2.2 (fun q e=>(HP7.out.own.lt q e).2))
     have HM9:=Lh (((HM8.out.set1 (a:=⟨p,3,none⟩) HBB.out.2 (.slice A6 cs.length c6)).set1 (a:=⟨p,4,none⟩) HBB.out.2 (.int .i64 hd)).set1 (a:=⟨p,5,none⟩) HBB.out.2 (.int .i64 sz))
     clear hn6 hl6 hb
     obtain ⟨⟨t0,t1,t2,t3,t4,t5,t6,t7,tl⟩,⟨f0,f1,f2,f3,f4,f5,f6,f7⟩⟩:=HP8.out.sa.s8.all
     obtain ⟨v0,v1,v2,v3,v4,v5,v6⟩:=HM8.out.m7
     have vl:=HM8.out.lt
     obtain ⟨hmp,hpm⟩:=HBB.out
     go_wp2_with fail
     clear t0 t1 t2 t3 t4 t5 t6 t7 tl f0 f1 f2 f3 f4 f5 f6 f7 v0 v1 v2 v3 v4 v5 v6 vl
     generalize (((w8.setCell ⟨p,3,none⟩ (.slice A6 cs.length c6)).setCell ⟨p,4,none⟩ (.int .i64 hd)).setCell ⟨p,5,none⟩ (.int .i64 sz))=w9 at*
     refine (HGR.out _ _ HP9.out.sa).mono ?_
     rintro e w10 ⟨A8,c8,A9,c9,rfl,n8,n9,h8,h9,hb⟩
     have HP10:=Lh (HP9.out.below hb)
     have HM10:=Lh (HM9.out.up hb)
     have HP12:=Lh (show Tk7 Z w p r B S' ⟨A6,c6,A8,c8,A9,c9⟩ (some ⟨b,o,none⟩) c0 L (.slice A5 K.length cc5) K ((w10.setCell ⟨p,6,none⟩ (.slice A8 gl.length c8)).setCell ⟨p,7,none⟩ (.slice A9 gh.length c9)) from by
      rw [HSN.out]
      exact HP10.out.setTab h8 h9 n8 n9 HP9.out.ne.2.2 (fun q e=>(HP9.out.own.lt q e).2))
     have HP13:=Lh (HP12.out.below ((Below.refl _ _).alloc (Nat.le_refl _) (.cells #[.int .i64 N.id,.int .i64 N.rt,.int .i64 N.ep,.int .i64 N.ct,.int .i64 N.gn,.int .i64 N.st,.string N.bd,.int .i64 dl] 58)))
     have HCX:=Lh (lease_row ((w10.setCell ⟨p,6,none⟩ (.slice A8 gl.length c8)).setCell ⟨p,7,none⟩ (.slice A9 gh.length c9)) ⟨N,dl⟩ 58)
     have HKL:=Lh (show K.length≤12 by rw [HKT.out];exact HTL.out)
     clear n8 n9 h8 h9 hb
     obtain ⟨⟨t0,t1,t2,t3,t4,t5,t6,t7,tl⟩,⟨f0,f1,f2,f3,f4,f5,f6,f7⟩⟩:=HP10.out.sa.s8.all
     obtain ⟨v0,v1,v2,v3,v4,v5,v6⟩:=HM10.out.m7
     have vl:=HM10.out.lt
     go_wp2_with (at_builtin;refine wpList_append_lies _ rfl (.tmp 110) (.tmp 116) 28 rfl B 58 i0 _ 8 72 Tryz.underlying28 HI.out HZ.out.1 HZ.out.2.1 HZ.out.2.2 rfl (by omega) (.slice A5 K.length cc5) K.length (ecs K) rfl HP13.out.own ⟨w10.heap.size,0,none⟩ 1 1 (Le.l ⟨N,dl⟩) rfl (by simp [Le.l_len]) (fun j u hu=>by have:=HCX.out j u hu;simpa using this) (Le.l_one ⟨N,dl⟩) (by omega) (by have:=HKL.out;unfold maxLen;omega) (by have:=HKL.out;omega) HP13.out.ne.2.2 _ rfl ?_;intro g cap w14 hown hgrow hat hglt)
     have HP14:=Lh (HP13.out.app (ecs_end hown) hgrow (fun q e=>by
      rcases hat with h | h
      ·left;rw [h];simpa [Value.ownBlock] using e
      ·right;simp only [Value.ownBlock] at e;injection e with e;rw [←e,h];exact Nat.le_refl _))
     clear hown hgrow hat hglt t0 t1 t2 t3 t4 t5 t6 t7 tl f0 f1 f2 f3 f4 f5 f6 f7 v0 v1 v2 v3 v4 v5 v6 vl
     go_wp2
     go_roundw
     case rel=>exact ⟨k+1,S',⟨A6,c6,A8,c8,A9,c9⟩,by omega,by go_num,HSK,by rw [HN2.out,HLS.out,←HK.out];exact HP14⟩
     case measure=>simp [intOf];omega
   ·have hmt' : ¬((lzF dl (pk mx f (L.take k)).1).length:Int)<(mx:Int):=by rw [HKT.out];omega
    have HE:=HEN.out k (.inr (by omega))
    have HF:=Lh (show SLe8 w S0 D0 SR' (lzF dl TP) 0 (.returned (.tuple #[sv S D,.slice A5 (lzF dl (pk mx f (L.take k)).1).length cc5,.int .i64 0])) (set8s wr r S D) from by
     rw [←HE.1,←HS.out,←HE.2]
     exact HP.out.out HZI.out)
    clear HE HNO HPN HPY HDI HYS HRV HEN HPK HTP
    generalize (lzF dl (pk mx f (L.take k)).1).length=kl at*
    obtain ⟨⟨t0,t1,t2,t3,t4,t5,t6,t7,tl⟩,⟨f0,f1,f2,f3,f4,f5,f6,f7⟩⟩:=HP.out.sa.s8.all
    obtain ⟨⟨r0,r1,r2,r3,r4,r5,r6,r7,rl⟩,⟨g0,g1,g2,g3,g4,g5,g6,g7⟩⟩:=HP.out.rs.all
    obtain ⟨⟨hpr,hrp⟩,-,-⟩:=HPR.out
    go_wp2
    exact bodyPost_ret (v:=.tuple #[sv S D,.slice A5 kl cc5,.int .i64 0]) (by simp only [results,Tryz.results83];go_simp <;> rfl) rfl HF.out
  ·obtain rfl:k=L.length:=by omega
   have HE:=HEN.out L.length (.inl (by omega))
   have HF:=Lh (show SLe8 w S0 D0 SR' (lzF dl TP) 0 (.returned (.tuple #[sv S D,.slice A5 (lzF dl (pk mx f (L.take L.length)).1).length cc5,.int .i64 0])) (set8s wr r S D) from by
    rw [←HE.1,←HS.out,←HE.2]
    exact HP.out.out HZI.out)
   clear HE HNO HPN HPY HDI HYS HRV HEN HPK HTP
   generalize (lzF dl (pk mx f (L.take L.length)).1).length=kl at*
   obtain ⟨⟨t0,t1,t2,t3,t4,t5,t6,t7,tl⟩,⟨f0,f1,f2,f3,f4,f5,f6,f7⟩⟩:=HP.out.sa.s8.all
   obtain ⟨⟨r0,r1,r2,r3,r4,r5,r6,r7,rl⟩,⟨g0,g1,g2,g3,g4,g5,g6,g7⟩⟩:=HP.out.rs.all
   obtain ⟨⟨hpr,hrp⟩,-,-⟩:=HPR.out
   go_wp2
   exact bodyPost_ret (v:=.tuple #[sv S D,.slice A5 kl cc5,.int .i64 0]) (by simp only [results,Tryz.results83];go_simp <;> rfl) rfl HF.out
end Go.Proofs.YtncgbldcjfbknaaGreat
