/- What is proved here: parts of the proof: Un. -/
import Derived.Test.YtkecnihgjepfeaaGreatJ44
namespace Go.Proofs.YtkecnihgjepfeaaGreat
open Go.RowKit
set_option linter.unusedVariables false
set_option linter.unusedSimpArgs false
set_option maxHeartbeats 8000000
set_option maxRecDepth 20000
def soC (s:Se):List Msg:=if s.at_=(s.o.od.length:Int) - 1 then [] else s.o.ca
theorem ustore_any {B p:Nat} {s:Se} {X:Sex} {a TA:Ar} {Y:Ax} {t n:Int} (i:Nat) (w:World) (h:Ur B p s X a Y t n w) (hl:s.lk.cs.length<=9) (hat:s.at_=(i:Int)) (hi:i<s.o.od.length) (ho:s.o.od.length<=1000) (hca:s.o.ca.length<=1000) (hsc:∀ W,Below w.heap.size w W->Calls Tryz.prog 90 #[.pointer (some ⟨p,0,none⟩),.int .i64 (ig s.o.od i)] W (UrP B p t n s TA 0 W)):Calls Tryz.prog 62 #[.pointer (some ⟨p,0,none⟩)] w (UrP B p t n (avP TA.sl.length { s with ca:=soC s } (s.o.od.length:Int) 6) TA (avE TA.sl.length { s with ca:=soC s } (s.o.od.length:Int) 6) w):=by
 have HA:=Lh (fun W (k:Below w.heap.size w W) z=>uatint_any X.o.Ao X.o.co s.o.od i z W (h.up k).se.out.order hi)
 have HSC:=Lh (fun W (k:Below w.heap.size w W)=>(hsc W k).mono fun e w' h1=>show ∃ X2 Y2,e=.returned (.int .i64 0)/\Ur B p s X2 TA Y2 t n w'/\Below B w w' from by
  obtain ⟨X2,Y2,e1,hu,hb⟩:=h1
  exact ⟨X2,Y2,e1,hu,(k.mono (Nat.le_trans h.ne (Nat.le_of_lt h.lt))).trans hb⟩)
 have HCL:=Lh (fun X2 Y2 W (k:Ur B p s X2 TA Y2 t n W)=>mgclone_any X2.o.Ac s.o.ca.length X2.o.cc s.o.ca W k.se.out.carry hca)
 have HAV:=Lh (fun X2 Y2 W (k:Ur B p { s with ca:=soC s } X2 TA Y2 t n W)=>uadvance_any (s.o.od.length:Int) 6 W k hl (by decide) (by decide) (by show -9<=s.at_/\s.at_<=1000;omega))
 have H0:=Lh h
 have HB0:=Lh (Below.refl w.heap.size w)
 have hw:IntKind.i64.wrap ((s.o.od.length:Int) - 1)=(s.o.od.length:Int) - 1:=IntWalk.i64_in _ (by omega)
 have HSO:=Lh (show soC s=if s.at_=(s.o.od.length:Int) - 1 then [] else s.o.ca from rfl)
 have HAT:=Lh hat
 generalize avP TA.sl.length { s with ca:=soC s } (s.o.od.length:Int) 6=R at*
 generalize avE TA.sl.length { s with ca:=soC s } (s.o.od.length:Int) 6=E at*
 clear h hl hat hi ho hca hsc
 go_enter Tryz.func62,Tryz.ntmps62
 go_upto_region 1 with (fail)
 go_cut [3] (fun s3 wx=>s3=.int .i64 0/\∃ X2 Y2,Hid (Ur B p s X2 TA Y2 t n wx)/\Hid (Below B w wx))
 case first=>
  have c1:=H0.out.rb.c 1 _ rfl
  rw [HAT.out] at c1
  have c21:=H0.out.rb.c 21 _ rfl
  have yl:=H0.out.rb.lt
  go_region_law (first | (go_simp;go_at_call 91;(with_reducible refine (HA.out _ ?hbel _).mono ?_);(case hbel=>(repeat' (first | with_reducible exact HB0.out | with_reducible refine bal ?_ _ | with_reducible refine bdr ?_)));rintro e w5 ⟨rfl,rfl⟩) | (go_simp;go_at_call 90;(with_reducible refine (HSC.out _ ?hbel).mono ?_);(case hbel=>(repeat' (first | with_reducible exact HB0.out | with_reducible refine bal ?_ _ | with_reducible refine bdr ?_)));rintro e w4 ⟨X2,Y2,rfl,hu,hb⟩;have HQ:=Lh hu;have HB4:=Lh hb;clear hu hb))
  all_goals
   go_wp2_with fail
   go_meet
   exact ⟨rfl,X2,Y2,HQ,HB4⟩
 case rest=>
  obtain ⟨rfl,X2,Y2,HU,HB⟩:=hcut
  clear HA HSC HB0 H0
  generalize wc=w1 at*
  have c24:=HU.out.rb.c 22 _ rfl
  have yl:=HU.out.rb.lt
  go_wp2_with fail
  clear c24 yl
  refine (HCL.out _ _ _ HU.out).mono ?_
  rintro e w2 ⟨v,rfl,hown,hb⟩
  obtain ⟨A,c,rfl⟩:=own_form hown
  have hn:Nw w1.heap.size A:=nwv_of (nwv_own hown (nLR _))
  have H1:=Lh (HU.out.up hb)
  have H2:=Lh (H1.out.car (Ls.of_own hown) (offb_nw hn HU.out.lt) (nw_low hn (Nat.le_trans HU.out.ne (Nat.le_of_lt HU.out.lt))))
  have HB2:=Lh (show Below B w (w2.setCell ⟨p,25,none⟩ (.slice A s.o.ca.length c)) from (HB.out.trans (hb.mono (Nat.le_trans HU.out.ne (Nat.le_of_lt HU.out.lt)))).setCell (p:=⟨p,25,none⟩) HU.out.ne _)
  clear hown hb hn HU HB HCL
  have c25:=H1.out.rb.c 25 _ rfl
  have f25:=H1.out.rb.f 25
  have yl:=H1.out.rb.lt
  go_upto_region 5 with (fail)
  clear c25 f25 yl H1
  generalize w2.setCell ⟨p,25,none⟩ (.slice A s.o.ca.length c)=w3 at*
  have c1:=H2.out.rb.c 1 _ rfl
  have c21:=H2.out.rb.c 21 _ rfl
  have yl:=H2.out.rb.lt
  simp only at c1 c21
  go_cut [45] (fun sb wx=>sb=.bool (s.at_==(s.o.od.length:Int) - 1)/\Hid (Below w3.heap.size w3 wx))
  case first=>
   go_region
   all_goals
    go_wp2_with fail
    go_meet
    exact ⟨rfl,Lh (Below.refl _ _).drew⟩
  case rest=>
   obtain ⟨rfl,HBX⟩:=hcut
   replace H2:=Lh (H2.out.up HBX.out)
   replace HB2:=Lh (HB2.out.trans (HBX.out.mono (Nat.le_trans H2.out.ne (show p<=w3.heap.size from Nat.le_of_lt yl))))
   clear c1 c21 yl HBX
   generalize wc=w4 at*
   by_cases hla:s.at_=(s.o.od.length:Int) - 1
   ·have hb:(s.at_==(s.o.od.length:Int) - 1)=true:=by simpa using hla
    rw [hb]
    rw [HSO.out,if_pos hla] at HAV
    clear hb hla HSO HAT
    have H3:=Lh (H2.out.car (l:=[]) (A:=none) (c:=0) Ls.nil (offb_0 _ _) nw_none)
    have HB3:=Lh (show Below B w (w4.setCell ⟨p,25,none⟩ (.slice none 0 0)) from HB2.out.setCell (p:=⟨p,25,none⟩) H2.out.ne _)
    have c25:=H2.out.rb.c 25 _ rfl
    have f25:=H2.out.rb.f 25
    have yl:=H2.out.rb.lt
    go_upto_region 7 with (fail)
    clear c25 f25 yl H2 HB2
    simp only [List.length_nil] at H3
    generalize w4.setCell ⟨p,25,none⟩ (.slice none 0 0)=w5 at*
    have c21:=H3.out.rb.c 21 _ rfl
    have yl:=H3.out.rb.lt
    simp only at c21
    go_wp2_with fail
    clear c21 yl
    refine (HAV.out _ _ _ H3.out).mono ?_
    rintro e w6 ⟨X3,Y3,rfl,hu,hbb⟩
    have HF:=Lh (show UrP B p t n R TA E w (.returned (.int .i64 E)) w6 from ⟨X3,Y3,rfl,hu,HB3.out.trans hbb⟩)
    clear hu hbb H3 HB3 HAV
    go_wp2
    go_ret
    exact HF.out
   ·have hb:(s.at_==(s.o.od.length:Int) - 1)=false:=by simpa using hla
    rw [hb]
    rw [HSO.out,if_neg hla] at HAV
    clear hb hla HSO HAT
    have c21:=H2.out.rb.c 21 _ rfl
    have yl:=H2.out.rb.lt
    simp only at c21
    go_wp2_with fail
    clear c21 yl
    refine (HAV.out _ _ _ H2.out).mono ?_
    rintro e w6 ⟨X3,Y3,rfl,hu,hbb⟩
    have HF:=Lh (show UrP B p t n R TA E w (.returned (.int .i64 E)) w6 from ⟨X3,Y3,rfl,hu,HB2.out.trans hbb⟩)
    clear hu hbb H2 HB2 HAV
    go_wp2
    go_ret
    exact HF.out
theorem nz_3 {wr w4:World} {zs:List Value} (t:TypeId) (hb:Below (wr.alloc (.cells zs.toArray t)).drew.heap.size (wr.alloc (.cells zs.toArray t)).drew w4):Rb w4 wr.heap.size zs/\wr.heap.size<=wr.heap.size:=
 ⟨((Rb.start wr zs t).up ((Below.refl _ _).drew)).up hb,nLR _⟩
theorem nz_4 {wr V w4:World} {zs:List Value} (t:TypeId) (hV:Below wr.heap.size wr V) (hb:Below (V.alloc (.cells zs.toArray t)).heap.size (V.alloc (.cells zs.toArray t)) w4):Rb w4 V.heap.size zs/\wr.heap.size<=V.heap.size:=
 ⟨(Rb.start V zs t).up hb,hV.size⟩
theorem nz_5 {wr w4:World} {u:Nat} {zs cs:List Value} (h:Rb w4 u zs/\wr.heap.size<=u) (hl:cs.length=zs.length) (h1:Below wr.heap.size wr w4):Nz wr u cs (stN15 w4 u 0 cs):=
 ⟨stN15_below h1 h.2 0,h.1.stN hl,h.2⟩
theorem uunmark_any {B p:Nat} {s:Se} {X:Sex} {a:Ar} {Y:Ax} {t n:Int} (i:Nat) (N:Sh) (wr:World) (h:Ur B p s X a Y t n wr) (hw:a.Few) (hl:s.lk.cs.length<=9) (hat:s.at_=(i:Int)) (hi:i<s.st.length) (hk:i<s.lk.cs.length)
  (hpr:∀ W,Below wr.heap.size wr W->Calls Tryz.prog 96 #[.pointer (some ⟨p,0,none⟩),.int .i64 (i:Int)] W fun e w'=>∃ D,e=.returned (sv N D)/\SR w' w'.heap.size N D/\Below W.heap.size W w')
  (hE:enE (tg s.st i) N s.sn.ep s.lim=0) (hs:wi (enT (tg s.st i) N s.sn.ep s.lim).sq 0 1099511627776=true/\wi (enT (tg s.st i) N s.sn.ep s.lim).ep 0 1099511627776=true/\wi (enT (tg s.st i) N s.sn.ep s.lim).rd 0 1099511627776=true/\wi (enT (tg s.st i) N s.sn.ep s.lim).ls 0 1099511627776=true) (hsl:slE a (ig s.lk.cs i) t=0) :
  Calls Tryz.prog 64 #[.pointer (some ⟨p,0,none⟩)] wr (UrP B p t n (avP (ssA a (ig s.lk.cs i) t (enT (tg s.st i) N s.sn.ep s.lim)).sl.length s (s.sh.length:Int) 8) (ssA a (ig s.lk.cs i) t (enT (tg s.st i) N s.sn.ep s.lim)) (avE (ssA a (ig s.lk.cs i) t (enT (tg s.st i) N s.sn.ep s.lim)).sl.length s (s.sh.length:Int) 8) wr):=by
 have HSA:=Lh (fun W (k:Below wr.heap.size wr W)=>(ustripeat_any i W (h.up k) hi).mono fun e w' h1=>show e=.returned (tg s.st i).v/\Below wr.heap.size wr w'/\Below W.heap.size W w' from ⟨h1.1,k.trans (h1.2.mono k.size),h1.2⟩)
 have HPR:=Lh (fun W (k:Below wr.heap.size wr W)=>(hpr W k).mono fun e w' h1=>show ∃ D,e=.returned (sv N D)/\(∀ W',Below w'.heap.size w' W'->SR W' W'.heap.size N D)/\Below wr.heap.size wr w'/\Below W.heap.size W w' from by
  obtain ⟨D,e1,hsr,hb⟩:=h1
  exact ⟨D,e1,fun W' hW=>(hsr.below hW).more hW.size,k.trans (hb.mono k.size),hb⟩)
 have HEN:=Lh (fun W (k:Below wr.heap.size wr W) D (hsr:SR W W.heap.size N D)=>(yend_any (tg s.st i) N D s.sn.ep s.lim W hsr).mono fun e w' h1=>show e=.returned (.tuple #[(enT (tg s.st i) N s.sn.ep s.lim).v,.int .i64 (enE (tg s.st i) N s.sn.ep s.lim)])/\Below wr.heap.size wr w'/\Below W.heap.size W w' from ⟨h1.1,k.trans (h1.2.mono k.size),h1.2⟩)
 rw [hE] at HEN
 obtain ⟨M,hM⟩:∃ x,x=enT (tg s.st i) N s.sn.ep s.lim:=⟨_,rfl⟩
 rw [<-hM] at HEN hs ⊢
 have HST:=Lh (fun W (k:Ur B p s X a Y t n W)=>ustorestripe_any i M W k hw hk hs)
 rw [hsl] at HST
 obtain ⟨TA,hTA⟩:∃ x,x=ssA a (ig s.lk.cs i) t M:=⟨_,rfl⟩
 rw [<-hTA] at HST ⊢
 have HAV:=Lh (fun X2 Y2 W (k:Ur B p s X2 TA Y2 t n W)=>uadvance_any (s.sh.length:Int) 8 W k hl (by decide) (by decide) (by omega))
 have H0:=Lh h
 have HAT:=Lh hat
 have HB0:=Lh (Below.refl wr.heap.size wr)
 have HSK:=Lh (show ∀ W,Below wr.heap.size wr W->W.cell? ⟨p,1,none⟩=some (.int .i64 (i:Int))/\W.cell? ⟨p,8,none⟩=some (.int .i64 s.sn.ep)/\W.cell? ⟨p,24,none⟩=some (.int .i64 s.lim) from fun W k=>⟨by rw [<-hat];exact (h.up k).rb.c 1 _ rfl,(h.up k).rb.c 8 _ rfl,(h.up k).rb.c 24 _ rfl⟩)
 generalize avP TA.sl.length s (s.sh.length:Int) 8=R at*
 generalize avE TA.sl.length s (s.sh.length:Int) 8=E at*
 generalize tg s.st i=T at*
 clear h hw hl hat hi hk hpr hE hs hsl hM hTA
 go_enter Tryz.func64,Tryz.ntmps64
 go_upto_region 1 with (fail)
 go_cut [3,4] (fun s16 s18 wx=>∃ u,s16=.pointer (some ⟨u,0,none⟩)/\s18=.int .i64 0/\Hid (Nz wr u [.int .i64 M.sq,.int .i64 M.ep,.int .i64 M.rd,.int .i64 M.ls] wx))
 case first=>
  go_region_held3 (fun W=>W.cell? ⟨p,1,none⟩=some (.int .i64 (i:Int))/\W.cell? ⟨p,8,none⟩=some (.int .i64 s.sn.ep)/\W.cell? ⟨p,24,none⟩=some (.int .i64 s.lim))
   ((refine HSK.out _ ?_;repeat' (first | with_reducible exact HB4.out | with_reducible exact HB6.out | with_reducible exact HB5.out | with_reducible exact HB0.out | with_reducible refine bal ?_ _ | with_reducible refine bdr ?_ | with_reducible refine bst ?_ ?_ _ | with_reducible exact HXU.out.2 | exact nLR _ | (simp;done) | (simp;omega))))
   (first | (go_simp;go_at_call 95;(with_reducible refine (HSA.out _ ?hbel).mono ?_);(case hbel=>(repeat' (first | with_reducible exact HB0.out | with_reducible refine bal ?_ _ | with_reducible refine bdr ?_)));rintro e w5 ⟨rfl,hB,hb⟩;have HB5:=Lh hB;have HXU:=Lh (nz_3 (zs:=[.int .i64 0,.int .i64 0,.int .i64 0,.int .i64 0]) 63 hb);clear hB hb) | (go_simp;go_at_call 95;(with_reducible refine (HSA.out _ ?hbel).mono ?_);(case hbel=>(repeat' (first | with_reducible exact HB0.out | with_reducible refine bal ?_ _ | with_reducible refine bdr ?_)));rintro e w5 ⟨rfl,hB,hb⟩;have HB5:=Lh hB;clear hB hb) | (go_simp;go_at_call 96;(with_reducible refine (HPR.out _ ?hbel).mono ?_);(case hbel=>(repeat' (first | with_reducible exact HB0.out | with_reducible exact HB5.out | with_reducible exact HB6.out | with_reducible refine bal ?_ _ | with_reducible refine bdr ?_)));rintro e w6 ⟨D,rfl,hsr,hB,hb⟩;have HB6:=Lh hB;have HSR:=Lh hsr;have HXU:=Lh (nz_4 (zs:=[.int .i64 0,.int .i64 0,.int .i64 0,.int .i64 0]) 63 HB5.out hb);clear hB hb hsr) | (go_simp;go_at_call 96;(with_reducible refine (HPR.out _ ?hbel).mono ?_);(case hbel=>(repeat' (first | with_reducible exact HB0.out | with_reducible exact HB5.out | with_reducible exact HB6.out | with_reducible refine bal ?_ _ | with_reducible refine bdr ?_)));rintro e w6 ⟨D,rfl,hsr,hB,hb⟩;have HB6:=Lh hB;have HSR:=Lh hsr;replace HXU:=Lh (And.intro (HXU.out.1.up hb) HXU.out.2);clear hB hb hsr) | (go_simp;go_at_call 96;(with_reducible refine (HPR.out _ ?hbel).mono ?_);(case hbel=>(repeat' (first | with_reducible exact HB0.out | with_reducible exact HB5.out | with_reducible exact HB6.out | with_reducible refine bal ?_ _ | with_reducible refine bdr ?_)));rintro e w6 ⟨D,rfl,hsr,hB,hb⟩;have HB6:=Lh hB;have HSR:=Lh hsr;clear hB hb hsr) | (go_simp;go_at_call 94;(with_reducible refine (HEN.out _ ?hbel _ (HSR.out _ (by repeat' (first | with_reducible exact Below.refl _ _ | with_reducible refine bal ?_ _ | with_reducible refine bdr ?_)))).mono ?_);(case hbel=>(repeat' (first | with_reducible exact HB0.out | with_reducible exact HB5.out | with_reducible exact HB6.out | with_reducible refine bal ?_ _ | with_reducible refine bdr ?_)));rintro e w4 ⟨rfl,hB,hb⟩;have HB4:=Lh hB;have HXU:=Lh (nz_4 (zs:=[.int .i64 0,.int .i64 0,.int .i64 0,.int .i64 0]) 63 HB6.out hb);have HP:=Lh (nz_5 (cs:=[.int .i64 M.sq,.int .i64 M.ep,.int .i64 M.rd,.int .i64 M.ls]) HXU.out rfl HB4.out);have z0:=HXU.out.1.c 0 _ rfl;have f0:=HXU.out.1.f 0;have z1:=HXU.out.1.c 1 _ rfl;have f1:=HXU.out.1.f 1;have z2:=HXU.out.1.c 2 _ rfl;have f2:=HXU.out.1.f 2;have z3:=HXU.out.1.c 3 _ rfl;have f3:=HXU.out.1.f 3;have zl:=HXU.out.1.lt;clear hB hb) | (go_simp;go_at_call 94;(with_reducible refine (HEN.out _ ?hbel _ (HSR.out _ (by repeat' (first | with_reducible exact Below.refl _ _ | with_reducible refine bal ?_ _ | with_reducible refine bdr ?_)))).mono ?_);(case hbel=>(repeat' (first | with_reducible exact HB0.out | with_reducible exact HB5.out | with_reducible exact HB6.out | with_reducible refine bal ?_ _ | with_reducible refine bdr ?_)));rintro e w4 ⟨rfl,hB,hb⟩;have HB4:=Lh hB;replace HXU:=Lh (And.intro (HXU.out.1.up hb) HXU.out.2);have HP:=Lh (nz_5 (cs:=[.int .i64 M.sq,.int .i64 M.ep,.int .i64 M.rd,.int .i64 M.ls]) HXU.out rfl HB4.out);have z0:=HXU.out.1.c 0 _ rfl;have f0:=HXU.out.1.f 0;have z1:=HXU.out.1.c 1 _ rfl;have f1:=HXU.out.1.f 1;have z2:=HXU.out.1.c 2 _ rfl;have f2:=HXU.out.1.f 2;have z3:=HXU.out.1.c 3 _ rfl;have f3:=HXU.out.1.f 3;have zl:=HXU.out.1.lt;clear hB hb) | (go_simp;go_at_call 94;(with_reducible refine (HEN.out _ ?hbel _ (HSR.out _ (by repeat' (first | with_reducible exact Below.refl _ _ | with_reducible refine bal ?_ _ | with_reducible refine bdr ?_)))).mono ?_);(case hbel=>(repeat' (first | with_reducible exact HB0.out | with_reducible exact HB5.out | with_reducible exact HB6.out | with_reducible refine bal ?_ _ | with_reducible refine bdr ?_)));rintro e w4 ⟨rfl,hB,hb⟩;have HB4:=Lh hB;have HP:=Lh (nz_1 (cs:=[.int .i64 M.sq,.int .i64 M.ep,.int .i64 M.rd,.int .i64 M.ls]) 63 HB4.out (Below.refl _ _));clear hB hb))
  all_goals
   go_wp2_with fail
   go_meet
   exact ⟨_,rfl,rfl,HP⟩
 case rest=>
  obtain ⟨u,rfl,rfl,HN⟩:=hcut
  have HBB:=Lh (show Below B wr wc from HN.out.bel.mono (Nat.le_trans H0.out.ne (Nat.le_of_lt H0.out.lt)))
  have H1:=Lh (H0.out.up HN.out.bel)
  clear HSA HPR HEN HSK HB0 H0
  generalize wc=w1 at*
  go_upto_region 4 with (fail)
  go_cut [5] (fun s5 wx=>s5=.int .i64 0/\∃ X2 Y2,Hid (Ur B p s X2 TA Y2 t n wx)/\Hid (Below B w1 wx))
  case first=>
   have HS4:=Lh (fun W (k:Below w1.heap.size w1 W)=>(HST.out W (H1.out.up k)).mono fun e w' h1=>show ∃ X2 Y2,e=.returned (.int .i64 0)/\Ur B p s X2 TA Y2 t n w'/\Below B w1 w' from by
    obtain ⟨X2,Y2,e1,hu,hb⟩:=h1
    exact ⟨X2,Y2,e1,hu,(k.mono (Nat.le_trans H1.out.ne (Nat.le_of_lt H1.out.lt))).trans hb⟩)
   have HB0:=Lh (Below.refl w1.heap.size w1)
   have u0:=HN.out.ub.c 0 _ rfl
   have u1:=HN.out.ub.c 1 _ rfl
   have u2:=HN.out.ub.c 2 _ rfl
   have u3:=HN.out.ub.c 3 _ rfl
   have ul:=HN.out.ub.lt
   have c1:=H1.out.rb.c 1 _ rfl
   rw [HAT.out] at c1
   have yl:=H1.out.rb.lt
   clear HN HST
   go_region_law (first | (go_simp;go_at_call 97;(with_reducible refine (HS4.out _ ?hbel).mono ?_);(case hbel=>(repeat' (first | with_reducible exact HB0.out | with_reducible refine bal ?_ _ | with_reducible refine bdr ?_)));rintro e w4 ⟨X2,Y2,rfl,hu,hb⟩;have HQ:=Lh hu;have HB4:=Lh hb;clear hu hb))
   all_goals
    go_wp2_with fail
    go_meet
    exact ⟨rfl,X2,Y2,HQ,HB4⟩
  case rest=>
   obtain ⟨rfl,X2,Y2,HU,HB⟩:=hcut
   clear HST HN H1 HAT
   replace HBB:=Lh (HBB.out.trans HB.out)
   clear HB
   generalize wc=w2 at*
   have c11:=HU.out.rb.c 11 _ rfl
   have yl:=HU.out.rb.lt
   go_wp2_with fail
   clear c11 yl
   refine (HAV.out _ _ _ HU.out).mono ?_
   rintro e w6 ⟨X3,Y3,rfl,hu,hbb⟩
   have HF:=Lh (show UrP B p t n R TA E wr (.returned (.int .i64 E)) w6 from ⟨X3,Y3,rfl,hu,HBB.out.trans hbb⟩)
   clear hu hbb HU HBB HAV
   go_wp2
   go_ret
   exact HF.out
end Go.Proofs.YtkecnihgjepfeaaGreat
