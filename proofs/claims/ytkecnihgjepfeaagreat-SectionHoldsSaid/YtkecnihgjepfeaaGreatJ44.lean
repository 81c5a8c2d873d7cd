/- What is proved here: parts of the proof: Um. -/
import Derived.Test.YtkecnihgjepfeaaGreatJ43
namespace Go.Proofs.YtkecnihgjepfeaaGreat
open Go.RowKit
set_option linter.unusedVariables false
set_option linter.unusedSimpArgs false
set_option maxHeartbeats 8000000
set_option maxRecDepth 20000
theorem uindex_any (A:Option Addr) (c:Nat) (l:List Int) (x:Int) (w:World) (hf:Fl w w.heap.size (.slice A l.length c) l) (hl:l.length<=1000):Calls Tryz.prog 76 #[.slice A l.length c,.int .i64 x] w fun e w'=>∃ r:Int,e=.returned (.int .i64 r)/\decide (0<=r)=decide (x∈l)/\w=w':=by
 have HF:=Lh hf
 have HL:=Lh hl
 clear hf hl
 go_enter Tryz.func76,Tryz.ntmps76
 go_wp2
 go_loopw [8] (fun i wr=>∃ k:Nat,k<=l.length/\i=.int .i64 k/\w=wr/\∀ j,j<k->ig l j≠x) (fun i _=>l.length - (intOf i).toNat)
 case atStart=>exact ⟨0,by omega,rfl,rfl,fun j h=>absurd h (by omega)⟩
 case round=>
  obtain ⟨k,hk,rfl,rfl,hno⟩:=hrel
  have HN:=Lh hno
  clear hno
  by_cases hlt:k<l.length
  ·obtain ⟨b,o,rfl,hb,hc⟩:=HF.out.atg hlt
   clear hb
   have hw:IntKind.i64.wrap ((k:Int)+1)=(k:Int)+1:=IntWalk.i64_in _ (by have:=HL.out;omega)
   by_cases he:ig l k=x
   ·have HM:=Lh (show decide (0<=(k:Int))=decide (x∈l) from by
     have:x∈l:=by rw [<-he];unfold ig;rw [List.getD,List.getElem?_eq_getElem hlt];exact List.getElem_mem hlt
     simp [this])
    have hb:(x==ig l k)=true:=by simp [he]
    clear he
    generalize ig l k=M at*
    go_wp2
    go_ret
    exact ⟨_,rfl,HM.out,rfl⟩
   ·have HNN:=Lh (show ∀ j,j<k+1->ig l j≠x from fun j h=>by
     by_cases e:j=k
     ·rw [e];exact he
     ·exact HN.out j (by omega))
    have hb:(x==ig l k)=false:=by simp;exact fun e=>he e.symm
    clear he
    generalize ig l k=M at*
    go_wp2
    go_roundw
    case rel=>exact ⟨k+1,by omega,by first | rfl | go_num,by first | rfl | trivial,HNN.out⟩
    case measure=>have:=HL.out;simp [intOf];omega
  ·have HM:=Lh (show decide (0<=(-1:Int))=decide (x∈l) from by
    have:¬x∈l:=fun hm=>by
     obtain ⟨j,hj,e⟩:=List.mem_iff_getElem.1 hm
     exact HN.out j (by omega) (by unfold ig;rw [List.getD,List.getElem?_eq_getElem hj];exact e)
    simp [this])
   go_wp2
   go_ret
   exact ⟨_,rfl,HM.out,rfl⟩
theorem ucontains_any (A:Option Addr) (c:Nat) (l:List Int) (x:Int) (w:World) (hf:Fl w w.heap.size (.slice A l.length c) l) (hl:l.length<=1000):Calls Tryz.prog 51 #[.slice A l.length c,.int .i64 x] w fun e w'=>e=.returned (.bool (decide (x∈l)))/\w=w':=by
 have HI:=Lh (uindex_any A c l x w hf hl)
 clear hf hl
 go_enter Tryz.func51,Tryz.ntmps51
 go_wp2_with fail
 refine HI.out.mono ?_
 rintro e w1 ⟨r,rfl,hr,rfl⟩
 have HR:=Lh hr
 clear hr
 go_wp2
 go_ret
 exact ⟨by rw [<-HR.out];rfl,rfl⟩
def nwS15s (s:Se) (k:Nat):Sh:=if (k:Int)∈s.o.od then sgS s.o.sh k else sgS s.sh k
theorem q_at {q:List Hs} {l:List Sh} (h:q.map Hs.S=l) {k:Nat} (hk:k<q.length):(q[k]).S=sgS l k:=by subst h;simp [sgS,List.getD,hk]
theorem upresent_y {B p:Nat} {s:Se} {X:Sex} {a:Ar} {Y:Ax} {t n:Int} (k:Nat) (w:World) (h:Ur B p s X a Y t n w) (hk:k<s.o.sh.length) (ho:s.o.od.length<=1000) (hm:(k:Int)∈s.o.od):Calls Tryz.prog 96 #[.pointer (some ⟨p,0,none⟩),.int .i64 (k:Int)] w fun e w'=>∃ D,e=.returned (sv (sgS s.o.sh k) D)/\SR w' w'.heap.size (sgS s.o.sh k) D/\Below w.heap.size w w':=by
 have hql:X.o.q.length=s.o.sh.length:=by rw [<-h.se.ok.o.q];simp
 obtain ⟨D,hD⟩:∃ D,D=(X.o.q[k]'(by omega)).D:=⟨_,rfl⟩
 have hS:(X.o.q[k]'(by omega)).S=sgS s.o.sh k:=q_at h.se.ok.o.q (by omega)
 have HSR:=Lh (show SR w w.heap.size (sgS s.o.sh k) D from by
  have:=(hrows_at h.se.out.shards (k:=k) (by omega) h.se.ok.o.qc).2
  rw [hS,<-hD] at this;exact this)
 have HB:=Lh ((Below.refl w.heap.size w).alloc (nLR _) (.cells #[.bool false,.int .i64 0,.int .i64 0,.slice none 0 0,.int .i64 0,.int .i64 0,.slice none 0 0,.slice none 0 0] 72))
 have H0:=Lh (h.up HB.out)
 have HA:=Lh (fun W (k' : Ur B p s X a Y t n W) S0 D0=>uatsh_any X.o.A X.o.c X.o.q k S0 D0 W k'.se.out.shards h.se.ok.o.qc (by omega))
 rw [hS,<-hD,hql] at HA
 have HCT:=Lh (ucontains_any X.o.Ao X.o.co s.o.od (k:Int) (w.alloc (.cells #[.bool false,.int .i64 0,.int .i64 0,.slice none 0 0,.int .i64 0,.int .i64 0,.slice none 0 0,.slice none 0 0] 72)) H0.out.se.out.order ho)
 rw [show decide ((k:Int)∈s.o.od)=true from by simpa using hm] at HCT
 obtain ⟨r,hr⟩:∃ r,r=w.heap.size:=⟨_,rfl⟩
 have HR:=Lh (show SB8 (w.alloc (.cells #[.bool false,.int .i64 0,.int .i64 0,.slice none 0 0,.int .i64 0,.int .i64 0,.slice none 0 0,.slice none 0 0] 72)) r zS zX from by rw [hr];exact SB8.zero w _)
 have HW:=Lh (show w.heap.size<=r by omega)
 generalize sgS s.o.sh k=S at*
 clear h hk ho hm hql hD hS
 go_enter Tryz.func96,Tryz.ntmps96
 go_upto_region 1 with (fail)
 rw [<-hr]
 clear hr
 generalize w.alloc (.cells #[.bool false,.int .i64 0,.int .i64 0,.slice none 0 0,.int .i64 0,.int .i64 0,.slice none 0 0,.slice none 0 0] 72)=w1 at*
 have c11:=H0.out.rb.c 11 _ rfl
 have c18:=H0.out.rb.c 18 _ rfl
 have c21:=H0.out.rb.c 21 _ rfl
 have yl:=H0.out.rb.lt
 go_wp2_with fail
 refine HCT.out.mono ?_
 rintro e w2 ⟨rfl,rfl⟩
 go_wp2_with fail
 clear c11 c18 c21 yl
 refine (HA.out _ H0.out zS zX).mono ?_
 rintro e w2 ⟨rfl,hb⟩
 have HR2:=Lh (HR.out.up hb)
 have hbw:=HB.out.trans (hb.mono HB.out.size)
 have hsr2:SR w2 w2.heap.size S D:=(HSR.out.below hbw).more hbw.size
 have hof:SOff S D r:=HSR.out.offs HW.out
 have HF:=Lh (show Below w.heap.size w ((((((((w2.setCell ⟨r,0,none⟩ (.bool S.lv)).setCell ⟨r,1,none⟩ (.int .i64 S.lo)).setCell ⟨r,2,none⟩ (.int .i64 S.hi)).setCell ⟨r,3,none⟩ (.slice D.A S.cs.length D.c)).setCell ⟨r,4,none⟩ (.int .i64 S.hd)).setCell ⟨r,5,none⟩ (.int .i64 S.sz)).setCell ⟨r,6,none⟩ (.slice D.A2 S.l.length D.c2)).setCell ⟨r,7,none⟩ (.slice D.A3 S.h.length D.c3))/\SR ((((((((w2.setCell ⟨r,0,none⟩ (.bool S.lv)).setCell ⟨r,1,none⟩ (.int .i64 S.lo)).setCell ⟨r,2,none⟩ (.int .i64 S.hi)).setCell ⟨r,3,none⟩ (.slice D.A S.cs.length D.c)).setCell ⟨r,4,none⟩ (.int .i64 S.hd)).setCell ⟨r,5,none⟩ (.int .i64 S.sz)).setCell ⟨r,6,none⟩ (.slice D.A2 S.l.length D.c2)).setCell ⟨r,7,none⟩ (.slice D.A3 S.h.length D.c3)) ((((((((w2.setCell ⟨r,0,none⟩ (.bool S.lv)).setCell ⟨r,1,none⟩ (.int .i64 S.lo)).setCell ⟨r,2,none⟩ (.int .i64 S.hi)).setCell ⟨r,3,none⟩ (.slice D.A S.cs.length D.c)).setCell ⟨r,4,none⟩ (.int .i64 S.hd)).setCell ⟨r,5,none⟩ (.int .i64 S.sz)).setCell ⟨r,6,none⟩ (.slice D.A2 S.l.length D.c2)).setCell ⟨r,7,none⟩ (.slice D.A3 S.h.length D.c3)).heap.size S D from ⟨stN15_below (vs:=[.bool S.lv,.int .i64 S.lo,.int .i64 S.hi,.slice D.A S.cs.length D.c,.int .i64 S.hd,.int .i64 S.sz,.slice D.A2 S.l.length D.c2,.slice D.A3 S.h.length D.c3]) hbw HW.out 0,by
  have e:((((((((w2.setCell ⟨r,0,none⟩ (.bool S.lv)).setCell ⟨r,1,none⟩ (.int .i64 S.lo)).setCell ⟨r,2,none⟩ (.int .i64 S.hi)).setCell ⟨r,3,none⟩ (.slice D.A S.cs.length D.c)).setCell ⟨r,4,none⟩ (.int .i64 S.hd)).setCell ⟨r,5,none⟩ (.int .i64 S.sz)).setCell ⟨r,6,none⟩ (.slice D.A2 S.l.length D.c2)).setCell ⟨r,7,none⟩ (.slice D.A3 S.h.length D.c3)).heap.size=w2.heap.size:=by simp
  rw [e]
  exact (((((((hsr2.offp (p:=⟨r,0,none⟩) hof _).offp (p:=⟨r,1,none⟩) hof _).offp (p:=⟨r,2,none⟩) hof _).offp (p:=⟨r,3,none⟩) hof _).offp (p:=⟨r,4,none⟩) hof _).offp (p:=⟨r,5,none⟩) hof _).offp (p:=⟨r,6,none⟩) hof _).offp (p:=⟨r,7,none⟩) hof _⟩)
 obtain ⟨r0,r1,r2,r3,r4,r5,r6,r7,rl⟩:=HR2.out.facts
 obtain ⟨f0,f1,f2,f3,f4,f5,f6,f7⟩:=HR2.out.free
 clear HR HB HW hb HR2 hbw hsr2 hof HA H0 HSR
 go_wp2
 exact bodyPost_ret (v:=sv S D) (by simp only [results,Tryz.results96];go_simp <;> rfl) rfl ⟨D,rfl,HF.out.2,HF.out.1⟩
theorem upresent_n {B p:Nat} {s:Se} {X:Sex} {a:Ar} {Y:Ax} {t n:Int} (k:Nat) (w:World) (h:Ur B p s X a Y t n w) (hk:k<s.sh.length) (ho:s.o.od.length<=1000) (hm:¬(k:Int)∈s.o.od):Calls Tryz.prog 96 #[.pointer (some ⟨p,0,none⟩),.int .i64 (k:Int)] w fun e w'=>∃ D,e=.returned (sv (sgS s.sh k) D)/\SR w' w'.heap.size (sgS s.sh k) D/\Below w.heap.size w w':=by
 have hql:X.q.length=s.sh.length:=by rw [<-h.se.ok.q];simp
 obtain ⟨D,hD⟩:∃ D,D=(X.q[k]'(by omega)).D:=⟨_,rfl⟩
 have hS:(X.q[k]'(by omega)).S=sgS s.sh k:=q_at h.se.ok.q (by omega)
 have HSR:=Lh (show SR w w.heap.size (sgS s.sh k) D from by
  have:=(hrows_at h.se.shards (k:=k) (by omega) h.se.ok.qc).2
  rw [hS,<-hD] at this;exact this)
 have HB:=Lh ((Below.refl w.heap.size w).alloc (nLR _) (.cells #[.bool false,.int .i64 0,.int .i64 0,.slice none 0 0,.int .i64 0,.int .i64 0,.slice none 0 0,.slice none 0 0] 72))
 have H0:=Lh (h.up HB.out)
 have HA:=Lh (fun W (k' : Ur B p s X a Y t n W) S0 D0=>uatsh_any X.A X.c X.q k S0 D0 W k'.se.shards h.se.ok.qc (by omega))
 rw [hS,<-hD,hql] at HA
 have HCT:=Lh (ucontains_any X.o.Ao X.o.co s.o.od (k:Int) (w.alloc (.cells #[.bool false,.int .i64 0,.int .i64 0,.slice none 0 0,.int .i64 0,.int .i64 0,.slice none 0 0,.slice none 0 0] 72)) H0.out.se.out.order ho)
 rw [show decide ((k:Int)∈s.o.od)=false from by simpa using hm] at HCT
 obtain ⟨r,hr⟩:∃ r,r=w.heap.size:=⟨_,rfl⟩
 have HR:=Lh (show SB8 (w.alloc (.cells #[.bool false,.int .i64 0,.int .i64 0,.slice none 0 0,.int .i64 0,.int .i64 0,.slice none 0 0,.slice none 0 0] 72)) r zS zX from by rw [hr];exact SB8.zero w _)
 have HW:=Lh (show w.heap.size<=r by omega)
 generalize sgS s.sh k=S at*
 clear h hk ho hm hql hD hS
 go_enter Tryz.func96,Tryz.ntmps96
 go_upto_region 1 with (fail)
 rw [<-hr]
 clear hr
 generalize w.alloc (.cells #[.bool false,.int .i64 0,.int .i64 0,.slice none 0 0,.int .i64 0,.int .i64 0,.slice none 0 0,.slice none 0 0] 72)=w1 at*
 have c11:=H0.out.rb.c 11 _ rfl
 have c18:=H0.out.rb.c 18 _ rfl
 have c21:=H0.out.rb.c 21 _ rfl
 have yl:=H0.out.rb.lt
 go_wp2_with fail
 refine HCT.out.mono ?_
 rintro e w2 ⟨rfl,rfl⟩
 go_wp2_with fail
 clear c11 c18 c21 yl
 refine (HA.out _ H0.out zS zX).mono ?_
 rintro e w2 ⟨rfl,hb⟩
 have HR2:=Lh (HR.out.up hb)
 have hbw:=HB.out.trans (hb.mono HB.out.size)
 have hsr2:SR w2 w2.heap.size S D:=(HSR.out.below hbw).more hbw.size
 have hof:SOff S D r:=HSR.out.offs HW.out
 have HF:=Lh (show Below w.heap.size w ((((((((w2.setCell ⟨r,0,none⟩ (.bool S.lv)).setCell ⟨r,1,none⟩ (.int .i64 S.lo)).setCell ⟨r,2,none⟩ (.int .i64 S.hi)).setCell ⟨r,3,none⟩ (.slice D.A S.cs.length D.c)).setCell ⟨r,4,none⟩ (.int .i64 S.hd)).setCell ⟨r,5,none⟩ (.int .i64 S.sz)).setCell ⟨r,6,none⟩ (.slice D.A2 S.l.length D.c2)).setCell ⟨r,7,none⟩ (.slice D.A3 S.h.length D.c3))/\SR ((((((((w2.setCell ⟨r,0,none⟩ (.bool S.lv)).setCell ⟨r,1,none⟩ (.int .i64 S.lo)).setCell ⟨r,2,none⟩ (.int .i64 S.hi)).setCell ⟨r,3,none⟩ (.slice D.A S.cs.length D.c)).setCell ⟨r,4,none⟩ (.int .i64 S.hd)).setCell ⟨r,5,none⟩ (.int .i64 S.sz)).setCell ⟨r,6,none⟩ (.slice D.A2 S.l.length D.c2)).setCell ⟨r,7,none⟩ (.slice D.A3 S.h.length D.c3)) ((((((((w2.setCell ⟨r,0,none⟩ (.bool S.lv)).setCell ⟨r,1,none⟩ (.int .i64 S.lo)).setCell ⟨r,2,none⟩ (.int .i64 S.hi)).setCell ⟨r,3,none⟩ (.slice D.A S.cs.length D.c)).setCell ⟨r,4,none⟩ (.int .i64 S.hd)).setCell ⟨r,5,none⟩ (.int .i64 S.sz)).setCell ⟨r,6,none⟩ (.slice D.A2 S.l.length D.c2)).setCell ⟨r,7,none⟩ (.slice D.A3 S.h.length D.c3)).heap.size S D from ⟨stN15_below (vs:=[.bool S.lv,.int .i64 S.lo,.int .i64 S.hi,.slice D.A S.cs.length D.c,.int .i64 S.hd,.int .i64 S.sz,.slice D.A2 S.l.length D.c2,.slice D.A3 S.h.length D.c3]) hbw HW.out 0,by
  have e:((((((((w2.setCell ⟨r,0,none⟩ (.bool S.lv)).setCell ⟨r,1,none⟩ (.int .i64 S.lo)).setCell ⟨r,2,none⟩ (.int .i64 S.hi)).setCell ⟨r,3,none⟩ (.slice D.A S.cs.length D.c)).setCell ⟨r,4,none⟩ (.int .i64 S.hd)).setCell ⟨r,5,none⟩ (.int .i64 S.sz)).setCell ⟨r,6,none⟩ (.slice D.A2 S.l.length D.c2)).setCell ⟨r,7,none⟩ (.slice D.A3 S.h.length D.c3)).heap.size=w2.heap.size:=by simp
  rw [e]
  exact (((((((hsr2.offp (p:=⟨r,0,none⟩) hof _).offp (p:=⟨r,1,none⟩) hof _).offp (p:=⟨r,2,none⟩) hof _).offp (p:=⟨r,3,none⟩) hof _).offp (p:=⟨r,4,none⟩) hof _).offp (p:=⟨r,5,none⟩) hof _).offp (p:=⟨r,6,none⟩) hof _).offp (p:=⟨r,7,none⟩) hof _⟩)
 obtain ⟨r0,r1,r2,r3,r4,r5,r6,r7,rl⟩:=HR2.out.facts
 obtain ⟨f0,f1,f2,f3,f4,f5,f6,f7⟩:=HR2.out.free
 clear HR HB HW hb HR2 hbw hsr2 hof HA H0 HSR
 go_wp2
 exact bodyPost_ret (v:=sv S D) (by simp only [results,Tryz.results96];go_simp <;> rfl) rfl ⟨D,rfl,HF.out.2,HF.out.1⟩
theorem ustorecell_d {B p:Nat} {s:Se} {X:Sex} {a:Ar} {Y:Ax} {t n:Int} (k c:Nat) (wr:World) (h:Ur B p s X a Y t n wr) (hw:a.Few) (hk:k<s.lk.cs.length) (hc:ig s.lk.cs k=(c:Int)) (hd:c=a.sl.length) (hE:owE a (a.sl.length:Int) t=0) (hV:va8 s.o.dc s.o.dl=0) (hC:s.o.dc=a.cap) (hb3:s.o.dl.length<=1000):Calls Tryz.prog 90 #[.pointer (some ⟨p,0,none⟩),.int .i64 (k:Int)] wr (UrP B p t n s (a.setDl s.o.dl) 0 wr):=by
 have HC:=Lh (ucell_any k wr h hk)
 have HD:=Lh (fun x=>uisdead_any x wr h)
 rw [hc] at HC
 have hdd:((c:Int)==(a.sl.length:Int))=true:=by simp [hd]
 have HT:=Lh (fun W (b:Below wr.heap.size wr W)=>(astoredead_yes a Y t s.o.dc X.o.Ad X.o.cd s.o.dl W (h.up b).ar hw (h.up b).se.out.dead hE hV hC hb3).mono fun e w' h1=>show ∃ Z,e=.returned (.tuple #[av (a.setDl s.o.dl) Z,.int .i64 0])/\Ur B p s X a Y t n w'/\AR w' w'.heap.size (a.setDl s.o.dl) Z/\AOff (a.setDl s.o.dl) Z p/\Z.nw B/\Below wr.heap.size wr w' from by
  obtain ⟨Z,e1,hn,hr,hb⟩:=h1
  exact ⟨Z,e1,(h.up b).up hb,hr,hn.off (Nat.lt_of_lt_of_le h.lt b.size),hn.low (Nat.le_trans (Nat.le_trans h.ne (Nat.le_of_lt h.lt)) b.size),b.trans (hb.mono b.size)⟩)
 have H0:=Lh h
 have HB0:=Lh (Below.refl wr.heap.size wr)
 obtain ⟨TA,hTA⟩:∃ x,x=a.setDl s.o.dl:=⟨_,rfl⟩
 rw [<-hTA] at HT ⊢
 clear h hw hk hc hd hE hV hC hb3 hTA
 go_enter Tryz.func90,Tryz.ntmps90
 go_wp2_with fail
 refine HC.out.mono ?_
 rintro e w1 ⟨rfl,rfl⟩
 go_wp2_with fail
 refine (HD.out _).mono ?_
 rintro e w1 ⟨rfl,rfl⟩
 go_upto_region 4 with (fail)
 clear HC HD
 go_cut [5] (fun s5 wx=>s5=.int .i64 0/\∃ Z,Hid (Ur B p s X TA Z t n wx)/\Hid (Below B wr wx))
 case first=>
  have c26:=H0.out.rb.c 26 _ rfl
  have c27:=H0.out.rb.c 27 _ rfl
  have c28:=H0.out.rb.c 28 _ rfl
  have c29:=H0.out.rb.c 29 _ rfl
  have c30:=H0.out.rb.c 30 _ rfl
  have c31:=H0.out.rb.c 31 _ rfl
  have c32:=H0.out.rb.c 32 _ rfl
  have c33:=H0.out.rb.c 33 _ rfl
  have c34:=H0.out.rb.c 34 _ rfl
  have c35:=H0.out.rb.c 35 _ rfl
  have c36:=H0.out.rb.c 36 _ rfl
  have c37:=H0.out.rb.c 37 _ rfl
  have c19:=H0.out.rb.c 19 _ rfl
  have c20:=H0.out.rb.c 20 _ rfl
  have yl:=H0.out.rb.lt
  go_region_law (first | (go_simp;go_at_call 118;(with_reducible refine (HT.out _ ?hbel).mono ?_);(case hbel=>(repeat' (first | with_reducible exact HB0.out | with_reducible exact HB5.out | with_reducible refine bal ?_ _ | with_reducible refine bdr ?_)));rintro e w4 ⟨Z,rfl,hu,hr,ho,hn,hb⟩;have HB4:=Lh hb;have HQ:=Lh (hu.arn hr ho hn);have c26:=hu.rb.c 26 _ rfl;have f26:=hu.rb.f 26;have c27:=hu.rb.c 27 _ rfl;have f27:=hu.rb.f 27;have c28:=hu.rb.c 28 _ rfl;have f28:=hu.rb.f 28;have c29:=hu.rb.c 29 _ rfl;have f29:=hu.rb.f 29;have c30:=hu.rb.c 30 _ rfl;have f30:=hu.rb.f 30;have c31:=hu.rb.c 31 _ rfl;have f31:=hu.rb.f 31;have c32:=hu.rb.c 32 _ rfl;have f32:=hu.rb.f 32;have c33:=hu.rb.c 33 _ rfl;have f33:=hu.rb.f 33;have c34:=hu.rb.c 34 _ rfl;have f34:=hu.rb.f 34;have c35:=hu.rb.c 35 _ rfl;have f35:=hu.rb.f 35;have c36:=hu.rb.c 36 _ rfl;have f36:=hu.rb.f 36;have yl:=hu.rb.lt;have HUN:=Lh hu.ne;clear hu hr ho hn hb))
  all_goals
   go_wp2_with fail
   go_meet
   exact ⟨rfl,Z,Lh HQ.out,Lh (stN15_below (vs:=[.slice Z.A TA.sl.length Z.c,.slice Z.A2 TA.st.length Z.c2,.int .i64 TA.ow,.int .i64 TA.cap,.slice Z.A3 TA.dl.length Z.c3,.int .i64 TA.dir.vn,.slice Z.D.A TA.dir.l.length Z.D.c,.slice Z.D.A2 TA.dir.F.length Z.D.c2,.int .i64 TA.ep,.int .i64 TA.ck,.int .i64 TA.ni]) (HB4.out.mono (Nat.le_trans H0.out.ne (Nat.le_of_lt H0.out.lt))) HUN.out 26)⟩
 case rest=>
  obtain ⟨rfl,Z,HU,HB⟩:=hcut
  have HF:=Lh (HU.out.rp HB.out 0)
  clear HU HB
  go_wp2
  go_ret
  exact HF.out
theorem ustorecell_s {B p:Nat} {s:Se} {X:Sex} {a:Ar} {Y:Ax} {t n:Int} (k c:Nat) (wr:World) (h:Ur B p s X a Y t n wr) (hw:a.Few) (hk:k<s.lk.cs.length) (hc:ig s.lk.cs k=(c:Int)) (hko:k<s.o.sh.length) (hE:slE a (c:Int) t=0) (hV:shV (sgS s.o.sh k)=0) (hL:(sgS s.o.sh k).cs.length=(og a.sl c).sh.cs.length) (hb3:(sgS s.o.sh k).cs.length<=1000/\(sgS s.o.sh k).l.length<=1000/\(sgS s.o.sh k).h.length<=1000):Calls Tryz.prog 90 #[.pointer (some ⟨p,0,none⟩),.int .i64 (k:Int)] wr (UrP B p t n s (a.setSh c (sgS s.o.sh k)) 0 wr):=by
 have HC:=Lh (ucell_any k wr h hk)
 have HD:=Lh (fun x=>uisdead_any x wr h)
 rw [hc] at HC
 have hdd:((c:Int)==(a.sl.length:Int))=false:=by have:=sl_nat hE;simp;omega
 have hql:X.o.q.length=s.o.sh.length:=by rw [<-h.se.ok.o.q];simp
 obtain ⟨D,hD⟩:∃ D,D=(X.o.q[k]'(by omega)).D:=⟨_,rfl⟩
 have hS:(X.o.q[k]'(by omega)).S=sgS s.o.sh k:=q_at h.se.ok.o.q (by omega)
 have hsr:SR wr wr.heap.size (sgS s.o.sh k) D:=by
  have:=(hrows_at h.se.out.shards (k:=k) (by omega) h.se.ok.o.qc).2
  rw [hS,<-hD] at this;exact this
 have HAT:=Lh (fun W (b:Below wr.heap.size wr W)=>(show Calls Tryz.prog 120 #[.slice X.o.A X.o.q.length X.o.c,.int .i64 (k:Int),.agg #[.bool false,.int .i64 0,.int .i64 0,.slice none 0 0,.int .i64 0,.int .i64 0,.slice none 0 0,.slice none 0 0]] W _ from uatsh_any X.o.A X.o.c X.o.q k zS zX W (h.up b).se.out.shards h.se.ok.o.qc (by omega)).mono fun e w' h1=>show e=.returned (sv (X.o.q[k]'(by omega)).S (X.o.q[k]'(by omega)).D)/\Below wr.heap.size wr w' from ⟨h1.1,b.trans (h1.2.mono b.size)⟩)
 rw [hS,<-hD,hql] at HAT
 have HT:=Lh (fun W (b:Below wr.heap.size wr W)=>((astoreslot_yes a Y c t (sgS s.o.sh k) D W (h.up b).ar hw ((hsr.below b).more b.size) hE hV hL hb3)).mono fun e w' h1=>show ∃ Z,e=.returned (.tuple #[av (a.setSh c (sgS s.o.sh k)) Z,.int .i64 0])/\Ur B p s X a Y t n w'/\AR w' w'.heap.size (a.setSh c (sgS s.o.sh k)) Z/\AOff (a.setSh c (sgS s.o.sh k)) Z p/\Z.nw B/\Below wr.heap.size wr w' from by
  obtain ⟨Z,e1,hn,hr,hb⟩:=h1
  exact ⟨Z,e1,(h.up b).up hb,hr,hn.off (Nat.lt_of_lt_of_le h.lt b.size),hn.low (Nat.le_trans (Nat.le_trans h.ne (Nat.le_of_lt h.lt)) b.size),b.trans (hb.mono b.size)⟩)
 have H0:=Lh h
 have HB0:=Lh (Below.refl wr.heap.size wr)
 obtain ⟨TA,hTA⟩:∃ x,x=a.setSh c (sgS s.o.sh k):=⟨_,rfl⟩
 rw [<-hTA] at HT ⊢
 clear h hw hk hc hko hE hV hL hb3 hql hD hS hsr hTA
 go_enter Tryz.func90,Tryz.ntmps90
 go_wp2_with fail
 refine HC.out.mono ?_
 rintro e w1 ⟨rfl,rfl⟩
 go_wp2_with fail
 refine (HD.out _).mono ?_
 rintro e w1 ⟨rfl,rfl⟩
 go_upto_region 5 with (fail)
 clear HC HD
 go_cut [5] (fun s5 wx=>s5=.int .i64 0/\∃ Z,Hid (Ur B p s X TA Z t n wx)/\Hid (Below B wr wx))
 case first=>
  have c26:=H0.out.rb.c 26 _ rfl
  have c27:=H0.out.rb.c 27 _ rfl
  have c28:=H0.out.rb.c 28 _ rfl
  have c29:=H0.out.rb.c 29 _ rfl
  have c30:=H0.out.rb.c 30 _ rfl
  have c31:=H0.out.rb.c 31 _ rfl
  have c32:=H0.out.rb.c 32 _ rfl
  have c33:=H0.out.rb.c 33 _ rfl
  have c34:=H0.out.rb.c 34 _ rfl
  have c35:=H0.out.rb.c 35 _ rfl
  have c36:=H0.out.rb.c 36 _ rfl
  have c37:=H0.out.rb.c 37 _ rfl
  have c18:=H0.out.rb.c 18 _ rfl
  have yl:=H0.out.rb.lt
  go_region_law (first | (go_simp;go_at_call 120;(with_reducible refine (HAT.out _ ?hbel).mono ?_);(case hbel=>(repeat' (first | with_reducible exact HB0.out | with_reducible refine bal ?_ _ | with_reducible refine bdr ?_)));rintro e w5 ⟨rfl,hb⟩;have HB5:=Lh hb;have hu:=H0.out.up hb;have c26:=hu.rb.c 26 _ rfl;have f26:=hu.rb.f 26;have c27:=hu.rb.c 27 _ rfl;have f27:=hu.rb.f 27;have c28:=hu.rb.c 28 _ rfl;have f28:=hu.rb.f 28;have c29:=hu.rb.c 29 _ rfl;have f29:=hu.rb.f 29;have c30:=hu.rb.c 30 _ rfl;have f30:=hu.rb.f 30;have c31:=hu.rb.c 31 _ rfl;have f31:=hu.rb.f 31;have c32:=hu.rb.c 32 _ rfl;have f32:=hu.rb.f 32;have c33:=hu.rb.c 33 _ rfl;have f33:=hu.rb.f 33;have c34:=hu.rb.c 34 _ rfl;have f34:=hu.rb.f 34;have c35:=hu.rb.c 35 _ rfl;have f35:=hu.rb.f 35;have c36:=hu.rb.c 36 _ rfl;have f36:=hu.rb.f 36;have c37:=hu.rb.c 37 _ rfl;have yl:=hu.rb.lt;clear hb hu) | (go_simp;go_at_call 119;(with_reducible refine (HT.out _ ?hbel).mono ?_);(case hbel=>(repeat' (first | with_reducible exact HB0.out | with_reducible exact HB5.out | with_reducible refine bal ?_ _ | with_reducible refine bdr ?_)));rintro e w4 ⟨Z,rfl,hu,hr,ho,hn,hb⟩;have HB4:=Lh hb;have HQ:=Lh (hu.arn hr ho hn);have c26:=hu.rb.c 26 _ rfl;have f26:=hu.rb.f 26;have c27:=hu.rb.c 27 _ rfl;have f27:=hu.rb.f 27;have c28:=hu.rb.c 28 _ rfl;have f28:=hu.rb.f 28;have c29:=hu.rb.c 29 _ rfl;have f29:=hu.rb.f 29;have c30:=hu.rb.c 30 _ rfl;have f30:=hu.rb.f 30;have c31:=hu.rb.c 31 _ rfl;have f31:=hu.rb.f 31;have c32:=hu.rb.c 32 _ rfl;have f32:=hu.rb.f 32;have c33:=hu.rb.c 33 _ rfl;have f33:=hu.rb.f 33;have c34:=hu.rb.c 34 _ rfl;have f34:=hu.rb.f 34;have c35:=hu.rb.c 35 _ rfl;have f35:=hu.rb.f 35;have c36:=hu.rb.c 36 _ rfl;have f36:=hu.rb.f 36;have yl:=hu.rb.lt;have HUN:=Lh hu.ne;clear hu hr ho hn hb))
  all_goals
   go_wp2_with fail
   go_meet
   exact ⟨rfl,Z,Lh HQ.out,Lh (stN15_below (vs:=[.slice Z.A TA.sl.length Z.c,.slice Z.A2 TA.st.length Z.c2,.int .i64 TA.ow,.int .i64 TA.cap,.slice Z.A3 TA.dl.length Z.c3,.int .i64 TA.dir.vn,.slice Z.D.A TA.dir.l.length Z.D.c,.slice Z.D.A2 TA.dir.F.length Z.D.c2,.int .i64 TA.ep,.int .i64 TA.ck,.int .i64 TA.ni]) (HB4.out.mono (Nat.le_trans H0.out.ne (Nat.le_of_lt H0.out.lt))) HUN.out 26)⟩
 case rest=>
  obtain ⟨rfl,Z,HU,HB⟩:=hcut
  have HF:=Lh (HU.out.rp HB.out 0)
  clear HU HB
  go_wp2
  go_ret
  exact HF.out
end Go.Proofs.YtkecnihgjepfeaaGreat
