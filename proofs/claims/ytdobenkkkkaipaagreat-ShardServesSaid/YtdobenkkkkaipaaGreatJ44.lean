/- What is proved here: ref07.Holds and held by contracts; ref07.held by a contract; shardqueueref05.down by a contract; shardqueueref05.cut by a contract. -/
import Derived.Test.YtdobenkkkkaipaaGreatJ43
namespace Go.Proofs.YtdobenkkkkaipaaGreat
open Go.RowKit
set_option linter.unusedVariables false
theorem ho7_no {S:Sh} {H:Hn} {now ep:Int} (h:exS S (wi now 0 1073741824&&wi ep 0 65536)≠0):hoF S H now ep=false:=by unfold hoF;rw [decide_eq_false h];rfl
set_option maxHeartbeats 8000000 in
set_option maxRecDepth 20000 in
theorem rholds7_any (S:Sh) (D:Sx) (H:Hn) (now ep:Int) (w:World) (hs:SR w w.heap.size S D) :
  Calls Tryz.prog 27 #[sv S D,H.v,.int .i64 now,.int .i64 ep] w fun e w'=>e=.returned (.bool (hoF S H now ep))∧Below w.heap.size w w':=by
 have H0:=Lh ((SAt.start 33 hs).alloc (.cells #[.int .i64 H.id,.int .i64 H.gn,.int .i64 H.rt,.int .i64 H.ht] 36))
 have Q0:=Lh (H4.start (w.alloc (.cells #[.bool S.lv,.int .i64 S.lo,.int .i64 S.hi,.slice D.A S.cs.length D.c,.int .i64 S.hd,.int .i64 S.sz,.slice D.A2 S.l.length D.c2,.slice D.A3 S.h.length D.c3] 33)) H 36)
 have HV:=Lh (fun p W (k:SAt w p S D W)=>rlive7_any S D W k.sr)
 have HEP:=Lh (fun W=>repochs_any ep W)
 have HTI:=Lh (fun W=>rtimes_any now W)
 have HF:=Lh (fun p W (k:SAt w p S D W)=>rtFind_any D.A2 S.l.length D.c2 S.l D.A3 S.h.length D.c3 S.h H.id W k.sr.el k.sr.dl)
 have HNO:=Lh (fun h=>ho7_no (S:=S) (H:=H) (now:=now) (ep:=ep) h)
 have HHO:Hid (hoF S H now ep=(decide (exS S (wi now 0 1073741824&&wi ep 0 65536)=0)&&(fnO S.l S.h H.id&&hxF (fnX S.l S.h H.id) H now ep))):=Lh rfl
 clear hs
 generalize hoF S H now ep=a at*
 generalize fnX S.l S.h H.id=X at*
 generalize fnO S.l S.h H.id=O at*
 unfold hxF at HHO
 have HPU:=Lh (fun W=>rpurged_any X.m ep W)
 generalize puF X.m ep=pu at*
 go_enter Tryz.func27,Tryz.ntmps27
 obtain ⟨p,hp⟩:∃ p,p=w.heap.size:=⟨_,rfl⟩
 obtain ⟨q,hq⟩:∃ q,q=w.heap.size+1:=⟨_,rfl⟩
 have e1:(w.alloc (.cells #[.bool S.lv,.int .i64 S.lo,.int .i64 S.hi,.slice D.A S.cs.length D.c,.int .i64 S.hd,.int .i64 S.sz,.slice D.A2 S.l.length D.c2,.slice D.A3 S.h.length D.c3] 33)).heap.size=q:=by rw [hq];simp
 rw [e1] at Q0
 rw [←hp] at H0
 clear e1
 obtain ⟨t0,t1,t2,t3,t4,t5,t6,t7,tl⟩:=H0.out.s8.facts
 go_wp2_with fail
 clear t0 t1 t2 t3 t4 t5 t6 t7 tl
 rw [←hq,←hp]
 clear hp hq
 generalize ((w.alloc (.cells #[.bool S.lv,.int .i64 S.lo,.int .i64 S.hi,.slice D.A S.cs.length D.c,.int .i64 S.hd,.int .i64 S.sz,.slice D.A2 S.l.length D.c2,.slice D.A3 S.h.length D.c3] 33)).alloc (.cells #[.int .i64 H.id,.int .i64 H.gn,.int .i64 H.rt,.int .i64 H.ht] 36))=w1 at*
 refine (HV.out _ _ H0.out).mono ?_
 rintro e w2 ⟨rfl,hb⟩
 have H9:=Lh (H0.out.below hb)
 have Q9:=Lh (Q0.out.up hb)
 clear hb H0 Q0
 by_cases hz:exS S true=0
 ·obtain ⟨hv,hlv,-⟩:=exS_zero hz
  rw [hz]
  clear hz
  cases hb1:wi ep 0 65536 with
  | false=>
   have HX:=Lh (HNO.out (by rw [hb1,exS_num (b:=wi now 0 1073741824&&false) hv hlv (by simp)];decide))
   rw [hb1] at HEP
   clear hv hlv HHO HNO hb1
   go_wp2_with fail
   refine (HEP.out _).mono ?_
   rintro e w3 ⟨rfl,rfl⟩
   go_wp2
   go_ret
   exact ⟨by rw [HX.out];rfl,H9.out.bel⟩
  | true=>
   cases hb2:wi now 0 1073741824 with
   | false=>
    have HX:=Lh (HNO.out (by rw [hb1,hb2,exS_num (b:=false&&true) hv hlv rfl];decide))
    rw [hb1] at HEP
    rw [hb2] at HTI
    clear hv hlv HHO HNO hb1 hb2
    go_wp2_with fail
    refine (HEP.out _).mono ?_
    rintro e w3 ⟨rfl,rfl⟩
    go_wp2_with fail
    refine (HTI.out _).mono ?_
    rintro e w3 ⟨rfl,rfl⟩
    go_wp2
    go_ret
    exact ⟨by rw [HX.out];rfl,H9.out.bel⟩
   | true=>
    rw [hb1,hb2,exS_ok (b:=true&&true) hv hlv rfl,show (decide ((0:Int)=0)&&(O&&(X.m.gn==H.gn&&(X.m.rt==H.rt&&(!pu&&decide (now<X.dl))))))=(O&&(X.m.gn==H.gn&&(X.m.rt==H.rt&&(!pu&&decide (now<X.dl))))) from rfl] at HHO
    rw [hb1] at HEP
    rw [hb2] at HTI
    clear hv hlv HNO hb1 hb2
    obtain ⟨t0,t1,t2,t3,t4,t5,t6,t7,tl⟩:=H9.out.s8.facts
    obtain ⟨q0,q1,q2,q3,ql⟩:=Q9.out
    go_wp2_with fail
    refine (HEP.out _).mono ?_
    rintro e w3 ⟨rfl,rfl⟩
    go_wp2_with fail
    refine (HTI.out _).mono ?_
    rintro e w3 ⟨rfl,rfl⟩
    go_wp2_with fail
    clear t0 t1 t2 t3 t4 t5 t6 t7 tl q0 q1 q2 q3 ql
    refine (HF.out _ _ H9.out).mono ?_
    rintro e w6 ⟨rfl,hb⟩
    have B6:=Lh (bal (btr H9.out.bel hb) (.cells #[.int .i64 X.m.id,.int .i64 X.m.rt,.int .i64 X.m.ep,.int .i64 X.m.ct,.int .i64 X.m.gn,.int .i64 X.m.st,.string X.m.bd,.int .i64 X.dl] 56))
    obtain ⟨q0,q1,q2,q3,ql⟩:=Q9.out.up hb
    clear hb
    cases O with
    | false=>
     have HX:=Lh (show a=false by rw [HHO.out];simp)
     clear HHO
     go_wp2
     go_ret
     exact ⟨by rw [HX.out];rfl,B6.out⟩
    | true=>
     cases h1:(X.m.gn==H.gn) with
     | false=>
      have HX:=Lh (show a=false by rw [HHO.out,h1];simp)
      clear HHO
      go_wp2
      go_ret
      exact ⟨by rw [HX.out];rfl,B6.out⟩
     | true=>
      cases h2:(X.m.rt==H.rt) with
      | false=>
       have HX:=Lh (show a=false by rw [HHO.out,h2];simp)
       clear HHO
       go_wp2
       go_ret
       exact ⟨by rw [HX.out];rfl,B6.out⟩
      | true=>
       cases pu with
       | true=>
        have HX:=Lh (show a=false by rw [HHO.out];simp)
        clear HHO
        go_wp2_with fail
        refine (HPU.out _).mono ?_
        rintro e w7 ⟨rfl,hb⟩
        have B7:=Lh (btr B6.out hb)
        clear hb
        go_wp2
        go_ret
        exact ⟨by rw [HX.out];rfl,B7.out⟩
       | false=>
        have hz':=B6.out.size
        have HX:=Lh (show a=decide (now<X.dl) by rw [HHO.out,h1,h2];simp)
        clear HHO
        go_wp2_with fail
        refine (HPU.out _).mono ?_
        rintro e w7 ⟨rfl,hb⟩
        have B7:=Lh (btr B6.out hb)
        have c7:=(hb.cell (p:=⟨w6.heap.size,7,none⟩) (by simp)).trans (show _=some (.int .i64 X.dl) by simp [go_sem])
        clear hb
        go_wp2
        go_ret
        exact ⟨by rw [HX.out];rfl,B7.out⟩
 ·have hne:(exS S true != 0)=true:=bne_iff_ne.2 hz
  have HX:=Lh (HNO.out (fun e=>hz (by obtain ⟨a,b,-⟩:=exS_zero e;exact exS_ok a b rfl)))
  clear hz HHO HNO
  generalize exS S true=z at*
  go_wp2
  go_ret
  exact ⟨by rw [HX.out];rfl,H9.out.bel⟩
theorem he_rng {S:Sh} {H:Hn} {now ep:Int} {b:Bool} (hv:shV S=0) (hl:S.lv=true) (h:(b&&(wi now 0 1073741824&&wi ep 0 65536))=false):heS S H now ep b=1:=by
 unfold heS;rw [h,exS_num (b:=false) hv hl rfl];rfl
theorem he7_ok {S:Sh} {H:Hn} {now ep:Int} {b:Bool} (hv:shV S=0) (hl:S.lv=true) (h:(b&&(wi now 0 1073741824&&wi ep 0 65536))=true):heS S H now ep b=if hoF S H now ep=true then 0 else 5:=by
 unfold heS;rw [h,exS_ok (b:=true) hv hl rfl];rfl
theorem he_ex {S:Sh} {H:Hn} {now ep:Int} {b:Bool} (h:exS S true≠0):heS S H now ep b=exS S true:=by
 have e:∀ c,exS S c=exS S true:=fun c=>by
  unfold exS at h ⊢
  by_cases h1:shV S≠0
  ·rw [if_pos h1,if_pos h1]
  ·rw [if_neg h1] at h
   rw [if_neg h1,if_neg h1]
   by_cases h2:S.lv=false
   ·rw [if_pos h2,if_pos h2]
   ·rw [if_neg h2] at h;exact absurd rfl h
 unfold heS;rw [e,if_pos h]
set_option maxHeartbeats 8000000 in
set_option maxRecDepth 20000 in
theorem rheld7_any (S:Sh) (D:Sx) (H:Hn) (now ep:Int) (g:Bool) (w:World) (hs:SR w w.heap.size S D) :
  Calls Tryz.prog 93 #[sv S D,H.v,.int .i64 now,.int .i64 ep,.bool g] w (VlT w (heS S H now ep g)):=by
 have H0:=Lh ((SAt.start 33 hs).alloc (.cells #[.int .i64 H.id,.int .i64 H.gn,.int .i64 H.rt,.int .i64 H.ht] 36))
 have Q0:=Lh (H4.start (w.alloc (.cells #[.bool S.lv,.int .i64 S.lo,.int .i64 S.hi,.slice D.A S.cs.length D.c,.int .i64 S.hd,.int .i64 S.sz,.slice D.A2 S.l.length D.c2,.slice D.A3 S.h.length D.c3] 33)) H 36)
 have HV:=Lh (fun p W (k:SAt w p S D W)=>rlive7_any S D W k.sr)
 have HEP:=Lh (fun W=>repochs_any ep W)
 have HTI:=Lh (fun W=>rtimes_any now W)
 have HH:=Lh (fun p W (k:SAt w p S D W)=>rholds7_any S D H now ep W k.sr)
 have HR:=Lh (fun hv hl h=>he_rng (S:=S) (H:=H) (now:=now) (ep:=ep) (b:=g) hv hl h)
 have HO:=Lh (fun hv hl h=>he7_ok (S:=S) (H:=H) (now:=now) (ep:=ep) (b:=g) hv hl h)
 have HX:=Lh (fun h=>he_ex (S:=S) (H:=H) (now:=now) (ep:=ep) (b:=g) h)
 clear hs
 generalize heS S H now ep g=x at*
 generalize hoF S H now ep=ho at*
 go_enter Tryz.func93,Tryz.ntmps93
 obtain ⟨p,hp⟩:∃ p,p=w.heap.size:=⟨_,rfl⟩
 obtain ⟨q,hq⟩:∃ q,q=w.heap.size+1:=⟨_,rfl⟩
 have e1:(w.alloc (.cells #[.bool S.lv,.int .i64 S.lo,.int .i64 S.hi,.slice D.A S.cs.length D.c,.int .i64 S.hd,.int .i64 S.sz,.slice D.A2 S.l.length D.c2,.slice D.A3 S.h.length D.c3] 33)).heap.size=q:=by rw [hq];simp
 rw [e1] at Q0
 rw [←hp] at H0
 clear e1
 obtain ⟨t0,t1,t2,t3,t4,t5,t6,t7,tl⟩:=H0.out.s8.facts
 go_wp2_with fail
 clear t0 t1 t2 t3 t4 t5 t6 t7 tl
 rw [←hq,←hp]
 clear hp hq
 generalize ((w.alloc (.cells #[.bool S.lv,.int .i64 S.lo,.int .i64 S.hi,.slice D.A S.cs.length D.c,.int .i64 S.hd,.int .i64 S.sz,.slice D.A2 S.l.length D.c2,.slice D.A3 S.h.length D.c3] 33)).alloc (.cells #[.int .i64 H.id,.int .i64 H.gn,.int .i64 H.rt,.int .i64 H.ht] 36))=w1 at*
 refine (HV.out _ _ H0.out).mono ?_
 rintro e w2 ⟨rfl,hb⟩
 have H9:=Lh (H0.out.below hb)
 have Q9:=Lh (Q0.out.up hb)
 clear hb H0 Q0
 by_cases hz:exS S true=0
 ·obtain ⟨hv,hlv,-⟩:=exS_zero hz
  rw [hz]
  clear hz HX
  cases hb1:wi ep 0 65536 with
  | false=>
   have HX:=Lh (HR.out hv hlv (by rw [hb1];simp))
   rw [hb1] at HEP
   clear hv hlv HO HR hb1
   go_wp2_with fail
   refine (HEP.out _).mono ?_
   rintro e w3 ⟨rfl,rfl⟩
   go_wp2
   go_ret
   exact ⟨by rw [HX.out];rfl,H9.out.bel⟩
  | true=>
   cases hb2:wi now 0 1073741824 with
   | false=>
    have HX:=Lh (HR.out hv hlv (by rw [hb2];simp))
    rw [hb1] at HEP
    rw [hb2] at HTI
    clear hv hlv HO HR hb1 hb2
    go_wp2_with fail
    refine (HEP.out _).mono ?_
    rintro e w3 ⟨rfl,rfl⟩
    go_wp2_with fail
    refine (HTI.out _).mono ?_
    rintro e w3 ⟨rfl,rfl⟩
    go_wp2
    go_ret
    exact ⟨by rw [HX.out];rfl,H9.out.bel⟩
   | true=>
    rw [hb1] at HEP
    rw [hb2] at HTI
    cases g with
    | false=>
     have HX:=Lh (HR.out hv hlv rfl)
     clear hv hlv HO HR hb1 hb2
     go_wp2_with fail
     refine (HEP.out _).mono ?_
     rintro e w3 ⟨rfl,rfl⟩
     go_wp2_with fail
     refine (HTI.out _).mono ?_
     rintro e w3 ⟨rfl,rfl⟩
     go_wp2
     go_ret
     exact ⟨by rw [HX.out];rfl,H9.out.bel⟩
    | true=>
     have HX:=Lh (HO.out hv hlv (by rw [hb1,hb2];rfl))
     clear hv hlv HO HR hb1 hb2
     obtain ⟨t0,t1,t2,t3,t4,t5,t6,t7,tl⟩:=H9.out.s8.facts
     obtain ⟨q0,q1,q2,q3,ql⟩:=Q9.out
     go_wp2_with fail
     refine (HEP.out _).mono ?_
     rintro e w3 ⟨rfl,rfl⟩
     go_wp2_with fail
     refine (HTI.out _).mono ?_
     rintro e w3 ⟨rfl,rfl⟩
     go_wp2_with fail
     clear t0 t1 t2 t3 t4 t5 t6 t7 tl q0 q1 q2 q3 ql
     refine (HH.out _ _ H9.out).mono ?_
     rintro e w4 ⟨rfl,hb⟩
     have B:=Lh (H9.out.below hb).bel
     clear hb
     cases ho with
     | true=>
      go_wp2
      go_ret
      exact ⟨by rw [HX.out];rfl,B.out⟩
     | false=>
      go_wp2
      go_ret
      exact ⟨by rw [HX.out];rfl,B.out⟩
 ·have hne:(exS S true != 0)=true:=bne_iff_ne.2 hz
  have HY:=Lh (HX.out hz)
  clear hz HX HO HR
  generalize exS S true=z at*
  go_wp2
  go_ret
  exact ⟨by rw [HY.out];rfl,H9.out.bel⟩
set_option maxHeartbeats 4000000 in
set_option maxRecDepth 20000 in
theorem rdown_any (lo:Nat) (A:Option Addr) (n c i:Nat) (l:List Du) (w:World) (hv:Dl w w.heap.size (.slice A n c) l) (hlo:lo≤w.heap.size) (hnw:Nw lo A) (hi:i<n) (h100:n≤100) :
  Calls Tryz.prog 197 #[.slice A n c,.int .i64 i] w (LvP w lo (dnF l i)):=by
 obtain ⟨rfl,hm1,hm2⟩:=hv.len
 have H:=Lh (show LsAt w lo (.slice A l.length c) l w from ⟨hv,nwv_mk hnw,Below.refl _ _⟩)
 have HLO:=Lh hlo
 have hi100:(i:Int)≤100:=by omega
 have HN:=Lh (show l.length≤100 from h100)
 obtain ⟨n,hn⟩:∃ n,n=l.length:=⟨_,rfl⟩
 rw [←hn] at H HN hi ⊢
 have HLN:=Lh hn
 have hn100:(n:Int)≤100:=by have:=HN.out;omega
 clear hv hm1 hm2 hnw hlo h100 hn
 go_enter Tryz.func197,Tryz.ntmps197
 go_wp2
 go_loopw [0,1] (fun hv iv wr=>∃ (j:Nat) (A' : Option Addr) (c' : Nat) (g:List Du),hv=.slice A' n c'∧iv=.int .i64 j∧j<n∧g.length=n∧dnF g j=dnF l i∧LsAt w lo (.slice A' n c') g wr) (fun _ iv _=>n - (intOf iv).toNat)
 case atStart=>exact ⟨i,A,c,l,rfl,rfl,hi,HLN.out.symm,rfl,H.out⟩
 case round=>
  obtain ⟨j,A',c',g,rfl,rfl,hjn,hgn,hu,hla⟩:=hrel
  have HL:=Lh hla
  have HU:=Lh hu
  have HGN:=Lh hgn
  clear hla hu hgn
  by_cases hl:2*j+1<n
  ·have hl' : 2*(j:Int)+1<(n:Int):=by omega
   obtain ⟨kk,hkk⟩:∃ kk,kk=decide (2*j+2<n∧bef (ge g (2*j+2)) (ge g (2*j+1))=true):=⟨_,rfl⟩
   go_wp2
   go_cut [31] (fun s31 wx=>s31=.bool kk∧LsAt w lo (.slice A' n c') g wx)
   case first=>
    by_cases h2:2*j+2<n
    ·have HKK:=Lh (show kk=bef (ge g (2*j+2)) (ge g (2*j+1)) by rw [hkk];simp [h2])
     obtain ⟨b,o,rfl,hbl,c0,c1⟩:=HL.out.dl.atg (k:=2*j+2) (by rw [HGN.out];omega)
     obtain ⟨b',o',e',hb',d0,d1⟩:=HL.out.dl.atg (k:=(2*j+1)) (by rw [HGN.out];omega)
     injection e' with e'
     injection e' with e1 e2
     subst e1;subst e2
     clear hb'
     obtain ⟨X,hX⟩:∃ X,ge g (2*j+2)=X:=⟨_,rfl⟩
     obtain ⟨Y,hY⟩:∃ Y,ge g ((2*j+1))=Y:=⟨_,rfl⟩
     have HX:=Lh hX
     have HY:=Lh hY
     rw [hX] at c0 c1
     rw [hY] at d0 d1
     clear hX hY
     have HF:=Lh (fun w1=>rbef_any X Y w1)
     have HSA:=Lh (show wr.drew.cell? ⟨b,o+(2*j+2)*2,none⟩=some (.int .i64 X.dl)∧wr.drew.cell? ⟨b,o+(2*j+2)*2+1,none⟩=some (.int .i64 X.id)∧wr.drew.cell? ⟨b,o+(2*j+1)*2,none⟩=some (.int .i64 Y.dl)∧wr.drew.cell? ⟨b,o+(2*j+1)*2+1,none⟩=some (.int .i64 Y.id) from ⟨c0,c1,d0,d1⟩)
     have HSC:=Lh (fun w1 (hb1:Below wr.drew.heap.size wr.drew w1)=>show (w1.cell? ⟨b,o+(2*j+2)*2,none⟩=some (.int .i64 X.dl)∧w1.cell? ⟨b,o+(2*j+2)*2+1,none⟩=some (.int .i64 X.id)∧w1.cell? ⟨b,o+(2*j+1)*2,none⟩=some (.int .i64 Y.dl)∧w1.cell? ⟨b,o+(2*j+1)*2+1,none⟩=some (.int .i64 Y.id))∧LsAt w lo (.slice (some ⟨b,o,none⟩) n c') g w1 from ⟨⟨(hb1.cell (p:=⟨b,o+(2*j+2)*2,none⟩) hbl).trans c0,(hb1.cell (p:=⟨b,o+(2*j+2)*2+1,none⟩) hbl).trans c1,(hb1.cell (p:=⟨b,o+(2*j+1)*2,none⟩) hbl).trans d0,(hb1.cell (p:=⟨b,o+(2*j+1)*2+1,none⟩) hbl).trans d1⟩,HL.out.below (drew_bel hb1)⟩)
     clear hbl
     rw [HX.out,HY.out] at HKK
     rw [←HKK.out] at HF
     clear hkk
     have h2' : 2*(j:Int)+1+1<(n:Int):=by omega
     have h2d:decide (2*(j:Int)+1+1<(n:Int))=true:=by simpa using h2'
     have hw1:IntKind.i64.wrap (2*(j:Int)+1+1)=2*(j:Int)+1+1:=IntWalk.i64_in _ (by omega)
     have hn1:(0:Int)≤2*(j:Int)+1+1:=by omega
     have ht1:(2*(j:Int)+1+1).toNat=2*j+2:=by omega
     have hn0:(0:Int)≤2*(j:Int)+1:=by omega
     have ht0:(2*(j:Int)+1).toNat=2*j+1:=by omega
     go_region_held3 (fun W=>W.cell? ⟨b,o+(2*j+2)*2,none⟩=some (.int .i64 X.dl)∧W.cell? ⟨b,o+(2*j+2)*2+1,none⟩=some (.int .i64 X.id)∧W.cell? ⟨b,o+(2*j+1)*2,none⟩=some (.int .i64 Y.dl)∧W.cell? ⟨b,o+(2*j+1)*2+1,none⟩=some (.int .i64 Y.id))
      (first | with_reducible exact HSA.out | with_reducible exact HSB.out)
      ((go_at_call 164;(with_reducible refine (HF.out _).mono ?_);rintro e w1 ⟨rfl,hb1⟩;obtain ⟨hs,hbb⟩:=HSC.out _ hb1;have HSB:=Lh hs;have HL1:=Lh hbb;clear hb1 hs hbb))
     go_wp2_with fail
     go_meet
     exact ⟨rfl,HL1.out⟩
    ·have HKK:=Lh (show kk=false by rw [hkk];simp [h2])
     have h2d:decide (2*(j:Int)+1+1<(n:Int))=false:=by simp;omega
     clear hkk h2
     have hw1:IntKind.i64.wrap (2*(j:Int)+1+1)=2*(j:Int)+1+1:=IntWalk.i64_in _ (by omega)
     go_quiet (fail)
     go_wp2_with fail
     go_meet
     exact ⟨by rw [HKK.out],HL.out.drewN _⟩
   case rest=>
    obtain ⟨rfl,hrc⟩:=hcut
    have HLC:=Lh hrc
    clear hrc
    cases kk with
    | true=>
     have hk2:=of_decide_eq_true hkk.symm
     have HCH:=Lh (chF_two (h:=g) (i:=j) (by rw [HGN.out];exact hk2.1) hk2.2)
     have hcl:=hk2.1
     clear hkk hk2
     have HCL:=Lh (show 2*j+2<n by omega)
     obtain ⟨b,o,rfl,hbl,c0,c1⟩:=HLC.out.dl.atg (k:=2*j+2) (by rw [HGN.out];omega)
     obtain ⟨b',o',e',hb',d0,d1⟩:=HLC.out.dl.atg (k:=j) (by rw [HGN.out];omega)
     injection e' with e'
     injection e' with e1 e2
     subst e1;subst e2
     clear hb'
     obtain ⟨X,hX⟩:∃ X,ge g (2*j+2)=X:=⟨_,rfl⟩
     obtain ⟨Y,hY⟩:∃ Y,ge g (j)=Y:=⟨_,rfl⟩
     have HX:=Lh hX
     have HY:=Lh hY
     rw [hX] at c0 c1
     rw [hY] at d0 d1
     clear hX hY
     have HF:=Lh (fun w1=>rbef_any X Y w1)
     have HSA:=Lh (show wc.drew.cell? ⟨b,o+(2*j+2)*2,none⟩=some (.int .i64 X.dl)∧wc.drew.cell? ⟨b,o+(2*j+2)*2+1,none⟩=some (.int .i64 X.id)∧wc.drew.cell? ⟨b,o+j*2,none⟩=some (.int .i64 Y.dl)∧wc.drew.cell? ⟨b,o+j*2+1,none⟩=some (.int .i64 Y.id) from ⟨c0,c1,d0,d1⟩)
     have HSC:=Lh (fun w1 (hb1:Below wc.drew.heap.size wc.drew w1)=>show (w1.cell? ⟨b,o+(2*j+2)*2,none⟩=some (.int .i64 X.dl)∧w1.cell? ⟨b,o+(2*j+2)*2+1,none⟩=some (.int .i64 X.id)∧w1.cell? ⟨b,o+j*2,none⟩=some (.int .i64 Y.dl)∧w1.cell? ⟨b,o+j*2+1,none⟩=some (.int .i64 Y.id))∧LsAt w lo (.slice (some ⟨b,o,none⟩) n c') g w1 from ⟨⟨(hb1.cell (p:=⟨b,o+(2*j+2)*2,none⟩) hbl).trans c0,(hb1.cell (p:=⟨b,o+(2*j+2)*2+1,none⟩) hbl).trans c1,(hb1.cell (p:=⟨b,o+j*2,none⟩) hbl).trans d0,(hb1.cell (p:=⟨b,o+j*2+1,none⟩) hbl).trans d1⟩,HLC.out.below (drew_bel hb1)⟩)
     clear hbl
     have hjn' : (j:Int)<(n:Int):=by omega
     cases hbf:bef X Y with
     | true=>
      have HBB:=Lh (show bef (ge g (2*j+2)) (ge g j)=true by rw [HX.out,HY.out];exact hbf)
      have HSW:=Lh (fun w1 hv=>rswap_any (some ⟨b,o,none⟩) n c' j (2*j+2) g w1 hv hjn HCL.out (by omega) HN.out)
      rw [hbf] at HF
      clear hbf
      go_wp2
      have hcn:2*(j:Int)+1+1<(n:Int):=by omega
      have hn1:(0:Int)≤2*(j:Int)+1+1:=by omega
      have ht1:(2*(j:Int)+1+1).toNat=2*j+2:=by omega
      go_region_held3 (fun W=>W.cell? ⟨b,o+(2*j+2)*2,none⟩=some (.int .i64 X.dl)∧W.cell? ⟨b,o+(2*j+2)*2+1,none⟩=some (.int .i64 X.id)∧W.cell? ⟨b,o+j*2,none⟩=some (.int .i64 Y.dl)∧W.cell? ⟨b,o+j*2+1,none⟩=some (.int .i64 Y.id))
       (first | with_reducible exact HSA.out | with_reducible exact HSB.out)
       ((go_at_call 164;(with_reducible refine (HF.out _).mono ?_);rintro e w1 ⟨rfl,hb1⟩;obtain ⟨hs,hbb⟩:=HSC.out _ hb1;have HSB:=Lh hs;have HL1:=Lh hbb;clear hb1 hs hbb))
      clear c0 c1 d0 d1
      have HUU:=Lh (show dnF (swp g j (2*j+2)) (2*j+2)=dnF l i by
       rw [←HU.out,dnF_step (by rw [HGN.out];exact hl) HCH.out HBB.out])
      go_wp2_with fail
      refine (HSW.out _ HL1.out.dl).mono ?_
      rintro e w2 ⟨A2,c2,rfl,hnw2,hl2,hb2⟩
      have hsl:(swp g j (2*j+2)).length=n:=by rw [swp_len];exact HGN.out
      rw [hsl] at hl2 ⊢
      have HL2:=Lh (show LsAt w lo (.slice A2 n c2) (swp g j (2*j+2)) w2 from ⟨hl2,nwv_mk (nw_low hnw2 (Nat.le_trans HLO.out HL1.out.bel.size)),HL1.out.bel.trans (hb2.mono HL1.out.bel.size)⟩)
      have HSL:=Lh hsl
      clear hnw2 hl2 hb2 hsl
      go_wp2
      go_roundw
      case rel=>exact ⟨2*j+2,A2,c2,swp g j (2*j+2),rfl,by go_num,HCL.out,HSL.out,HUU.out,HL2.out⟩
      case measure=>have:=HCL.out;simp [intOf];omega
     | false=>
      have HUU:=Lh (show dnF l i=g by rw [←HU.out,dnF_stop HCH.out (by rw [HX.out,HY.out];exact hbf)])
      rw [hbf] at HF
      clear hbf
      go_wp2
      have hcn:2*(j:Int)+1+1<(n:Int):=by omega
      have hn1:(0:Int)≤2*(j:Int)+1+1:=by omega
      have ht1:(2*(j:Int)+1+1).toNat=2*j+2:=by omega
      go_region_held3 (fun W=>W.cell? ⟨b,o+(2*j+2)*2,none⟩=some (.int .i64 X.dl)∧W.cell? ⟨b,o+(2*j+2)*2+1,none⟩=some (.int .i64 X.id)∧W.cell? ⟨b,o+j*2,none⟩=some (.int .i64 Y.dl)∧W.cell? ⟨b,o+j*2+1,none⟩=some (.int .i64 Y.id))
       (first | with_reducible exact HSA.out | with_reducible exact HSB.out)
       ((go_at_call 164;(with_reducible refine (HF.out _).mono ?_);rintro e w1 ⟨rfl,hb1⟩;obtain ⟨hs,hbb⟩:=HSC.out _ hb1;have HSB:=Lh hs;have HL1:=Lh hbb;clear hb1 hs hbb))
      clear c0 c1 d0 d1
      go_wp2
      go_ret
      exact ⟨_,rfl,by rw [HUU.out];exact HL1.out⟩
    | false=>
     have hk2:=of_decide_eq_false hkk.symm
     have HCH:=Lh (chF_one (h:=g) (i:=j) (by rw [HGN.out];exact hk2))
     clear hkk hk2
     have HCL:=Lh (show 2*j+1<n by omega)
     obtain ⟨b,o,rfl,hbl,c0,c1⟩:=HLC.out.dl.atg (k:=2*j+1) (by rw [HGN.out];omega)
     obtain ⟨b',o',e',hb',d0,d1⟩:=HLC.out.dl.atg (k:=j) (by rw [HGN.out];omega)
     injection e' with e'
     injection e' with e1 e2
     subst e1;subst e2
     clear hb'
     obtain ⟨X,hX⟩:∃ X,ge g (2*j+1)=X:=⟨_,rfl⟩
     obtain ⟨Y,hY⟩:∃ Y,ge g (j)=Y:=⟨_,rfl⟩
     have HX:=Lh hX
     have HY:=Lh hY
     rw [hX] at c0 c1
     rw [hY] at d0 d1
     clear hX hY
     have HF:=Lh (fun w1=>rbef_any X Y w1)
     have HSA:=Lh (show wc.drew.cell? ⟨b,o+(2*j+1)*2,none⟩=some (.int .i64 X.dl)∧wc.drew.cell? ⟨b,o+(2*j+1)*2+1,none⟩=some (.int .i64 X.id)∧wc.drew.cell? ⟨b,o+j*2,none⟩=some (.int .i64 Y.dl)∧wc.drew.cell? ⟨b,o+j*2+1,none⟩=some (.int .i64 Y.id) from ⟨c0,c1,d0,d1⟩)
     have HSC:=Lh (fun w1 (hb1:Below wc.drew.heap.size wc.drew w1)=>show (w1.cell? ⟨b,o+(2*j+1)*2,none⟩=some (.int .i64 X.dl)∧w1.cell? ⟨b,o+(2*j+1)*2+1,none⟩=some (.int .i64 X.id)∧w1.cell? ⟨b,o+j*2,none⟩=some (.int .i64 Y.dl)∧w1.cell? ⟨b,o+j*2+1,none⟩=some (.int .i64 Y.id))∧LsAt w lo (.slice (some ⟨b,o,none⟩) n c') g w1 from ⟨⟨(hb1.cell (p:=⟨b,o+(2*j+1)*2,none⟩) hbl).trans c0,(hb1.cell (p:=⟨b,o+(2*j+1)*2+1,none⟩) hbl).trans c1,(hb1.cell (p:=⟨b,o+j*2,none⟩) hbl).trans d0,(hb1.cell (p:=⟨b,o+j*2+1,none⟩) hbl).trans d1⟩,HLC.out.below (drew_bel hb1)⟩)
     clear hbl
     have hjn' : (j:Int)<(n:Int):=by omega
     cases hbf:bef X Y with
     | true=>
      have HBB:=Lh (show bef (ge g (2*j+1)) (ge g j)=true by rw [HX.out,HY.out];exact hbf)
      have HSW:=Lh (fun w1 hv=>rswap_any (some ⟨b,o,none⟩) n c' j (2*j+1) g w1 hv hjn HCL.out (by omega) HN.out)
      rw [hbf] at HF
      clear hbf
      go_wp2
      have hn0:(0:Int)≤2*(j:Int)+1:=by omega
      have ht0:(2*(j:Int)+1).toNat=2*j+1:=by omega
      go_region_held3 (fun W=>W.cell? ⟨b,o+(2*j+1)*2,none⟩=some (.int .i64 X.dl)∧W.cell? ⟨b,o+(2*j+1)*2+1,none⟩=some (.int .i64 X.id)∧W.cell? ⟨b,o+j*2,none⟩=some (.int .i64 Y.dl)∧W.cell? ⟨b,o+j*2+1,none⟩=some (.int .i64 Y.id))
       (first | with_reducible exact HSA.out | with_reducible exact HSB.out)
       ((go_at_call 164;(with_reducible refine (HF.out _).mono ?_);rintro e w1 ⟨rfl,hb1⟩;obtain ⟨hs,hbb⟩:=HSC.out _ hb1;have HSB:=Lh hs;have HL1:=Lh hbb;clear hb1 hs hbb))
      clear c0 c1 d0 d1
      have HUU:=Lh (show dnF (swp g j (2*j+1)) (2*j+1)=dnF l i by
       rw [←HU.out,dnF_step (by rw [HGN.out];exact hl) HCH.out HBB.out])
      go_wp2_with fail
      refine (HSW.out _ HL1.out.dl).mono ?_
      rintro e w2 ⟨A2,c2,rfl,hnw2,hl2,hb2⟩
      have hsl:(swp g j (2*j+1)).length=n:=by rw [swp_len];exact HGN.out
      rw [hsl] at hl2 ⊢
      have HL2:=Lh (show LsAt w lo (.slice A2 n c2) (swp g j (2*j+1)) w2 from ⟨hl2,nwv_mk (nw_low hnw2 (Nat.le_trans HLO.out HL1.out.bel.size)),HL1.out.bel.trans (hb2.mono HL1.out.bel.size)⟩)
      have HSL:=Lh hsl
      clear hnw2 hl2 hb2 hsl
      go_wp2
      go_roundw
      case rel=>exact ⟨2*j+1,A2,c2,swp g j (2*j+1),rfl,by go_num,HCL.out,HSL.out,HUU.out,HL2.out⟩
      case measure=>have:=HCL.out;simp [intOf];omega
     | false=>
      have HUU:=Lh (show dnF l i=g by rw [←HU.out,dnF_stop HCH.out (by rw [HX.out,HY.out];exact hbf)])
      rw [hbf] at HF
      clear hbf
      go_wp2
      have hn0:(0:Int)≤2*(j:Int)+1:=by omega
      have ht0:(2*(j:Int)+1).toNat=2*j+1:=by omega
      go_region_held3 (fun W=>W.cell? ⟨b,o+(2*j+1)*2,none⟩=some (.int .i64 X.dl)∧W.cell? ⟨b,o+(2*j+1)*2+1,none⟩=some (.int .i64 X.id)∧W.cell? ⟨b,o+j*2,none⟩=some (.int .i64 Y.dl)∧W.cell? ⟨b,o+j*2+1,none⟩=some (.int .i64 Y.id))
       (first | with_reducible exact HSA.out | with_reducible exact HSB.out)
       ((go_at_call 164;(with_reducible refine (HF.out _).mono ?_);rintro e w1 ⟨rfl,hb1⟩;obtain ⟨hs,hbb⟩:=HSC.out _ hb1;have HSB:=Lh hs;have HL1:=Lh hbb;clear hb1 hs hbb))
      clear c0 c1 d0 d1
      go_wp2
      go_ret
      exact ⟨_,rfl,by rw [HUU.out];exact HL1.out⟩
  ·have HUU:=Lh (show dnF l i=g by rw [←HU.out,dnF_leaf (by rw [HGN.out];exact hl)])
   have hl' : ¬(2*(j:Int)+1<(n:Int)):=by omega
   go_wp2
   go_ret
   exact ⟨_,rfl,by rw [HUU.out];exact HL.out⟩
set_option maxHeartbeats 4000000 in
set_option maxRecDepth 20000 in
theorem rcut_any (A:Option Addr) (m c i:Nat) (l:List Du) (w:World) (hv:Dl w w.heap.size (.slice A (m+1) c) l) (hi:i≤m) (h100:m≤99) :
  Calls Tryz.prog 178 #[.slice A (m+1) c,.int .i64 i] w (DlV w (cuF l i)):=by
 obtain ⟨hn,hm1,hm2⟩:=hv.len
 have hlen:l.length=m+1:=hn.symm
 have HLEN:=Lh hlen
 obtain ⟨i0,hi0,hz0⟩:=Option.map_eq_some_iff.1 info_due
 simp only [Prod.mk.injEq] at hz0
 have HI:=Lh hi0
 have HZ:=Lh hz0
 have HV:=Lh hv
 obtain ⟨b,o,rfl,hb,c0,c1⟩:=hv.atg (k:=m) (by omega)
 obtain ⟨X,hX⟩:∃ X,ge l m=X:=⟨_,rfl⟩
 have HX:=Lh hX
 rw [hX] at c0 c1
 have hlt:(l.take m).length=m:=by rw [List.length_take];omega
 have HVT:=Lh (hv.upto m (by omega)).rd
 have HBB:=Lh hb
 have HC:=Lh (And.intro c0 c1)
 have hcut:=run_dupto (some ⟨b,o,none⟩) (m+1) c .i64 m (by omega)
 have hm9:(m:Int)≤99:=by omega
 have him:(i:Int)≤(m:Int):=by omega
 have hmlt:(m:Int)<((m+1:Nat):Int):=by omega
 clear hv hn hlen hm1 hm2 hX hb c0 c1 hi0 hz0
 go_enter Tryz.func178,Tryz.ntmps178
 by_cases hime:i=m
 ·subst hime
  go_wp2_with (at_builtin;refine wpList_append_rd _ rfl (.const (.slice none 0 0)) (.tmp 12) 29 rfl w.heap.size 133 i0 _ 2 16 Tryz.underlying29 HI.out HZ.out.1 HZ.out.2.1 HZ.out.2.2 rfl (by omega) (.slice none 0 0) 0 [] rfl (World.ownsRow_nil _ _ _ _) w.heap.size (some ⟨b,o,none⟩) i c (dcs (l.take i)) rfl HVT.out (dcs_one _) (by unfold maxLen;omega) (by omega) (Nat.le_refl _) ?_;intro v1 w1 hown1 hg1 hat1)
  rw [Nat.zero_add,List.nil_append] at hown1
  have HB1:=Lh (show Below w.heap.size w w1 from (Below.refl w.heap.size w).grown hg1 (Nat.le_refl _) (fun k e=>by simp [Value.ownBlock] at e))
  have HF:=Lh (show DlV w (cuF l i) (.returned v1) w1 from by
   rw [cuF_last HLEN.out]
   exact DlV.of_own (by rw [hlt];exact hown1) (Nat.le_refl _) HB1.out)
  clear hown1 hg1 hat1 hlt
  go_wp2
  go_ret
  exact HF.out
 ·have hilt:i<m:=by omega
  have hieq:((i:Int)==(m:Int))=false:=by simp;omega
  have hilt' : (i:Int)<(m:Int):=by omega
  clear hime
  go_wp2_with (at_builtin;refine wpList_append_rd _ rfl (.const (.slice none 0 0)) (.tmp 12) 29 rfl w.heap.size 133 i0 _ 2 16 Tryz.underlying29 HI.out HZ.out.1 HZ.out.2.1 HZ.out.2.2 rfl (by omega) (.slice none 0 0) 0 [] rfl (World.ownsRow_nil _ _ _ _) w.heap.size (some ⟨b,o,none⟩) m c (dcs (l.take m)) rfl HVT.out (dcs_one _) (by unfold maxLen;omega) (by omega) (Nat.le_refl _) ?_;intro v1 w1 hown1 hg1 hat1;rw [Nat.zero_add,List.nil_append] at hown1;have HB1:=Lh (show Below w.heap.size w w1 from (Below.refl w.heap.size w).grown hg1 (Nat.le_refl _) (fun k e=>by simp [Value.ownBlock] at e));obtain ⟨q,cap,rfl,hq,hle,hmx,hrow⟩:=own_row hown1 (by omega);have HR:=Lh (RwAt.mk (w:=w1) hrow hlt (Below.refl q w1));have HQ:=Lh hq;have HM:=Lh (And.intro hle hmx);clear hown1 hg1 hat1 hq hle hmx hrow;obtain ⟨y0,y1,f0,f1,hql⟩:=HR.out.row.at_ hilt;have c0:=(HB1.out.cell (p:=⟨b,o+m*2,none⟩) HBB.out).trans HC.out.1;have c1:=(HB1.out.cell (p:=⟨b,o+m*2+1,none⟩) HBB.out).trans HC.out.2)
  have HR2:=Lh (HR.out.put hilt X)
  clear y0 y1 f0 f1 hql c0 c1 hcut
  generalize ((w1.setCell ⟨q,i*2,none⟩ (.int .i64 X.dl)).setCell ⟨q,i*2+1,none⟩ (.int .i64 X.id))=w2 at*
  obtain ⟨y,hy⟩:∃ y,y=(l.take m).set i X:=⟨_,rfl⟩
  rw [←hy] at HR2
  have HY:=Lh hy
  have HYI:=Lh (show ge y i=X from by rw [hy,ge_set _ _ _ _ (by rw [hlt];exact hilt),if_pos rfl])
  clear hy hlt
  have HBW:=Lh (show Below w.heap.size w w2 from HB1.out.trans (HR2.out.bel.mono HQ.out))
  have HDL:=Lh (HR2.out.row.dl' HR2.out.len HM.out.1 HM.out.2)
  have HFI:=Lh (fun (z:List Du) (hz:z=cuF l i) e w4 (h:∃ v,e=.returned v∧LsAt w2 w.heap.size v z w4)=>show DlV w (cuF l i) e w4 from by
   subst hz
   obtain ⟨v,rfl,hla⟩:=h
   obtain ⟨A4,c4,rfl,_,_⟩:=hla.dl.form
   exact ⟨A4,c4,rfl,nwv_of hla.nw,hla.dl,HBW.out.trans (hla.bel.mono HBW.out.size)⟩)
  by_cases hi0:0<i
  ·obtain ⟨p,hp⟩:∃ p,p=(i - 1) / 2:=⟨_,rfl⟩
   have HPP:=Lh hp
   have hpm:p<m:=by omega
   have hw1:IntKind.i64.wrap ((i:Int) - 1)=(i:Int) - 1:=IntWalk.i64_in _ (by omega)
   have hq1:((i:Int) - 1).tdiv 2=(p:Int):=by rw [Int.tdiv_eq_ediv_of_nonneg (by omega)];omega
   have hw2:IntKind.i64.wrap (p:Int)=(p:Int):=IntWalk.i64_in _ (by omega)
   clear hp
   obtain ⟨Y,hY⟩:∃ Y,ge y p=Y:=⟨_,rfl⟩
   obtain ⟨c0,c1,f0,f1,hql⟩:=HR2.out.row.at_ hilt
   obtain ⟨d0,d1,g0,g1,-⟩:=HR2.out.row.at_ hpm
   rw [HYI.out] at c0 c1
   rw [hY] at d0 d1
   have HF:=Lh (fun w1=>rbef_any X Y w1)
   have HSA:=Lh (show w2.drew.cell? ⟨q,i*2,none⟩=some (.int .i64 X.dl)∧w2.drew.cell? ⟨q,i*2+1,none⟩=some (.int .i64 X.id)∧w2.drew.cell? ⟨q,p*2,none⟩=some (.int .i64 Y.dl)∧w2.drew.cell? ⟨q,p*2+1,none⟩=some (.int .i64 Y.id) from ⟨c0,c1,d0,d1⟩)
   have HSC:=Lh (fun w3 (hb1:Below w2.drew.heap.size w2.drew w3)=>show (w3.cell? ⟨q,i*2,none⟩=some (.int .i64 X.dl)∧w3.cell? ⟨q,i*2+1,none⟩=some (.int .i64 X.id)∧w3.cell? ⟨q,p*2,none⟩=some (.int .i64 Y.dl)∧w3.cell? ⟨q,p*2+1,none⟩=some (.int .i64 Y.id))∧Dl w3 w3.heap.size (.slice (some ⟨q,0,none⟩) m cap) y∧Below w2.heap.size w2 w3 from ⟨⟨(hb1.cell (p:=⟨q,i*2,none⟩) hql).trans c0,(hb1.cell (p:=⟨q,i*2+1,none⟩) hql).trans c1,(hb1.cell (p:=⟨q,p*2,none⟩) hql).trans d0,(hb1.cell (p:=⟨q,p*2+1,none⟩) hql).trans d1⟩,HDL.out.up (drew_bel hb1),drew_bel hb1⟩)
   have hi0' : (0:Int)<(i:Int):=by omega
   have hpm' : (p:Int)<(m:Int):=by omega
   have hgd:decide ((0:Int)<(i:Int))=true:=decide_eq_true hi0'
   clear f0 f1 g0 g1 hql
   cases hb:bef X Y with
   | true=>
    have HCU:=Lh (show upF y i=cuF l i from by
     rw [HY.out,←HX.out,cuF_up HLEN.out (by omega)]
     rw [HX.out,←HY.out,HYI.out,←HPP.out,hY]
     exact hb)
    rw [hb] at HF
    clear hb hY
    go_region_held3 (fun W=>W.cell? ⟨q,i*2,none⟩=some (.int .i64 X.dl)∧W.cell? ⟨q,i*2+1,none⟩=some (.int .i64 X.id)∧W.cell? ⟨q,p*2,none⟩=some (.int .i64 Y.dl)∧W.cell? ⟨q,p*2+1,none⟩=some (.int .i64 Y.id))
     (first | with_reducible exact HSA.out | with_reducible exact HSB.out)
     ((go_at_call 164;(with_reducible refine (HF.out _).mono ?_);rintro e w3 ⟨rfl,hb1⟩;obtain ⟨hs,hd3,hb3⟩:=HSC.out _ hb1;have HSB:=Lh hs;have HD3:=Lh hd3;have HB3:=Lh hb3;clear hb1 hs hd3 hb3))
    clear c0 c1 d0 d1 hw1 hq1 hw2
    have HU:=Lh (rup_any w.heap.size (some ⟨q,0,none⟩) m cap i y w3 HD3.out (by have:=HBW.out.size;have:=HB3.out.size;omega) (nw_some HQ.out) hilt (by omega))
    go_wp2_with fail
    refine HU.out.mono ?_
    rintro e w4 ⟨v4,rfl,h4⟩
    have HFF:=Lh (HFI.out _ HCU.out (.returned v4) w4 ⟨v4,rfl,⟨h4.dl,h4.nw,HB3.out.trans (h4.bel.mono HB3.out.size)⟩⟩)
    clear h4
    go_wp2
    go_ret
    exact HFF.out
   | false=>
    have HCU:=Lh (show dnF y i=cuF l i from by
     rw [HY.out,←HX.out,cuF_dn HLEN.out (by omega)]
     rw [HX.out,←HY.out,HYI.out,←HPP.out,hY]
     exact hb)
    rw [hb] at HF
    clear hb hY
    go_region_held3 (fun W=>W.cell? ⟨q,i*2,none⟩=some (.int .i64 X.dl)∧W.cell? ⟨q,i*2+1,none⟩=some (.int .i64 X.id)∧W.cell? ⟨q,p*2,none⟩=some (.int .i64 Y.dl)∧W.cell? ⟨q,p*2+1,none⟩=some (.int .i64 Y.id))
     (first | with_reducible exact HSA.out | with_reducible exact HSB.out)
     ((go_at_call 164;(with_reducible refine (HF.out _).mono ?_);rintro e w3 ⟨rfl,hb1⟩;obtain ⟨hs,hd3,hb3⟩:=HSC.out _ hb1;have HSB:=Lh hs;have HD3:=Lh hd3;have HB3:=Lh hb3;clear hb1 hs hd3 hb3))
    clear c0 c1 d0 d1 hw1 hq1 hw2
    have HU:=Lh (rdown_any w.heap.size (some ⟨q,0,none⟩) m cap i y w3 HD3.out (by have:=HBW.out.size;have:=HB3.out.size;omega) (nw_some HQ.out) hilt (by omega))
    go_wp2_with fail
    refine HU.out.mono ?_
    rintro e w4 ⟨v4,rfl,h4⟩
    have HFF:=Lh (HFI.out _ HCU.out (.returned v4) w4 ⟨v4,rfl,⟨h4.dl,h4.nw,HB3.out.trans (h4.bel.mono HB3.out.size)⟩⟩)
    clear h4
    go_wp2
    go_ret
    exact HFF.out
  ·obtain rfl:i=0:=by omega
   have HCU:=Lh (show dnF y 0=cuF l 0 from by
    rw [HY.out,←HX.out,cuF_dn HLEN.out (by omega)]
    exact bef_irr _)
   go_quiet (fail)
   have HU:=Lh (fun k=>(show Calls Tryz.prog 197 #[.slice (some ⟨q,0,none⟩) m cap,.int .i64 0] (w2.drewN k) (LvP (w2.drewN k) w.heap.size (dnF y 0)) from rdown_any w.heap.size (some ⟨q,0,none⟩) m cap 0 y (w2.drewN k) (HDL.out.drewN k) HBW.out.size (nw_some HQ.out) hilt (by omega)))
   go_wp2_with fail
   refine (HU.out _).mono ?_
   rintro e w4 ⟨v4,rfl,h4⟩
   have HFF:=Lh (HFI.out _ HCU.out (.returned v4) w4 ⟨v4,rfl,⟨h4.dl,h4.nw,⟨h4.bel.os,h4.bel.tape,h4.bel.output,h4.bel.size,h4.bel.block⟩⟩⟩)
   clear h4
   go_wp2
   go_ret
   exact HFF.out
end Go.Proofs.YtdobenkkkkaipaaGreat
