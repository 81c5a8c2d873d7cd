/- What is proved here: parts of the proof: Deq Lvt Lva Shw Shx She. -/
import Derived.Test.YtkecnihgjepfeaaGreatJ16
namespace Go.Proofs.YtkecnihgjepfeaaGreat
open Go.RowKit
set_option linter.unusedVariables false
set_option linter.unusedSimpArgs false
set_option maxHeartbeats 8000000
set_option maxRecDepth 20000
open Classical in
theorem eqd_in (a b:Du) (W:World):(Op.equalIn 10000 155 a.v b.v).run Tryz.prog W=.ok (decide (a=b)) W:=by
 have u3:=Tryz.underlying3
 have hS:Tryz.prog.underlying 155=some (.struct (Tryz.prog.fieldsOf 155)):=by kernel_rfl
 have hp:Tryz.prog.stoodInHeld 155=false:=by kernel_rfl
 rw [show (10000:Nat)=9999+1 from rfl,run_equalIn_agg W 9999 155 _ _ hS hp]
 simp only [Program.fieldsOf,Tryz.underlying155]
 by_cases h0:a.dl=b.dl
 ·by_cases h1:a.id=b.id
  ·have e:decide (a=b)=true:=decide_eq_true (by cases a;cases b;simp_all)
   have h0' : (a.dl==b.dl)=true:=by simpa using h0
   have h1' : (a.id==b.id)=true:=by simpa using h1
   rw [e]
   clear e h0 h1
   go_simp
  ·have e:decide (a=b)=false:=decide_eq_false (fun e=>h1 (by rw [e]))
   have h0' : (a.dl==b.dl)=true:=by simpa using h0
   have h1' : (a.id==b.id)=false:=by simpa using h1
   rw [e]
   clear e h0 h1
   go_simp
 ·have e:decide (a=b)=false:=decide_eq_false (fun e=>h0 (by rw [e]))
  have h0' : (a.dl==b.dl)=false:=by simpa using h0
  rw [e]
  clear e h0
  go_simp
open Classical in
theorem eqd_yes (a:Du):∀ W,(binOp .eql 155 a.v a.v).run Tryz.prog W=.ok (.bool true) W:=fun W=>by
 rw [run_eql_struct,eqd_in,decide_eq_true (show a=a from rfl)];rfl
open Classical in
theorem eqd_no {a b:Du} (h:a≠b):∀ W,(binOp .eql 155 a.v b.v).run Tryz.prog W=.ok (.bool false) W:=fun W=>by
 rw [run_eql_struct,eqd_in,decide_eq_false h];rfl
open Classical in
theorem neqd_no (a:Du):∀ W,(binOp .neq 155 a.v a.v).run Tryz.prog W=.ok (.bool false) W:=fun W=>by
 rw [run_neq_struct,eqd_in,decide_eq_true (show a=a from rfl)];rfl
end Go.Proofs.YtkecnihgjepfeaaGreat
namespace Go.Proofs.YtkecnihgjepfeaaGreat
open Go.RowKit
set_option linter.unusedVariables false
set_option linter.unusedSimpArgs false
set_option maxHeartbeats 8000000
set_option maxRecDepth 20000
abbrev DB (W:World) (p:Nat) (d:Du):Prop:=W.cell? ⟨p,0,none⟩=some (.int .i64 d.dl)/\W.cell? ⟨p,1,none⟩=some (.int .i64 d.id)/\p<W.heap.size
theorem DB.start (w:World) (d:Du) (t:TypeId):DB (w.alloc (.cells #[.int .i64 d.dl,.int .i64 d.id] t)) w.heap.size d:=⟨by simp [go_sem],by simp [go_sem],by simp⟩
theorem DB.below {B:Nat} {W W' : World} {p:Nat} {d:Du} (h:DB W p d) (hb:Below B W W') (hp:p<B):DB W' p d:=
 ⟨(hb.cell (p:=⟨p,0,none⟩) hp).trans h.1,(hb.cell (p:=⟨p,1,none⟩) hp).trans h.2.1,Nat.lt_of_lt_of_le h.2.2 hb.size⟩
def HxP (l:List Du) (d:Du) (w:World) (e:Ending) (w' : World):Prop:=∃ r:Int,e=.returned (.int .i64 r)/\(0<=r↔d∈l)/\Below w.heap.size w w'
theorem hx_yes {l:List Du} {d:Du} {k:Nat} (hk:k<l.length) (e:d=ge l k):0<=(k:Int)↔d∈l:=⟨fun _=>by rw [e];exact mem_ge hk,fun _=>by omega⟩
theorem hx_no {l:List Du} {d:Du} (h:∀ j,j<l.length->d≠ge l j):0<=(-1:Int)↔d∈l:=⟨fun h=>absurd h (by decide),fun hd=>by obtain ⟨j,hj,e⟩:=ge_mem hd;exact absurd e.symm (h j hj)⟩
open Classical in
theorem dindex_any (A:Option Addr) (n c:Nat) (l:List Du) (d:Du) (w:World) (hv:Dl w w.heap.size (.slice A n c) l) :
  Calls Tryz.prog 209 #[.slice A n c,d.v] w (HxP l d w):=by
 obtain ⟨rfl,hm1,hm2⟩:=hv.len
 have hL:l.length<=9223372036854775807:=by unfold maxLen at hm2;omega
 have HB:=Lh ((Below.refl w.heap.size w).alloc (nLR _) (.cells #[.int .i64 d.dl,.int .i64 d.id] 155))
 have HD:=Lh (DB.start w d 155)
 have HV:=Lh (hv.up HB.out)
 clear hv hm1 hm2
 go_enter Tryz.func209,Tryz.ntmps209
 go_wp2
 obtain ⟨p,hp⟩:∃ p,p=w.heap.size:=⟨_,rfl⟩
 rw [<-hp] at HD ⊢
 clear hp
 generalize w.alloc (.cells #[.int .i64 d.dl,.int .i64 d.id] 155)=w1 at*
 go_loopw [8] (fun i wr=>∃ k:Nat,k<=l.length/\i=.int .i64 k/\Below w1.heap.size w1 wr/\∀ j,j<k->d≠ge l j) (fun i _=>l.length - (intOf i).toNat)
 case atStart=>exact ⟨0,by omega,rfl,Below.refl _ _,fun j h=>absurd h (by omega)⟩
 case round=>
  obtain ⟨k,hk,rfl,hb,hno⟩:=hrel
  have HN:=Lh hno
  have HVK:=Lh (HV.out.below hb)
  obtain ⟨x0,x1,xl⟩:=HD.out.below hb HD.out.2.2
  have HB:=Lh (HB.out.trans (hb.mono HB.out.size))
  have HB1:=Lh hb
  clear hno hb
  by_cases hlt:k<l.length
  ·obtain ⟨b,o,rfl,hb,c0,c1⟩:=HVK.out.atg hlt
   by_cases he:d=ge l k
   ·have HR:=Lh (hx_yes hlt he)
    have heq:=eqd_yes d
    rw [<-he] at c0 c1
    clear he
    go_wp2
    go_quiet (fail)
    go_wp2
    go_ret
    exact ⟨k,rfl,HR.out,below_drewN HB.out _⟩
   ·have HNN:=Lh (show ∀ j,j<k+1->d≠ge l j from fun j h=>by
     by_cases e:j=k
     ·rw [e];exact he
     ·exact HN.out j (by omega))
    have heq:=eqd_no he
    clear he
    generalize ge l k=M at*
    go_wp2
    go_quiet (fail)
    go_wp2
    go_roundw
    case rel=>exact ⟨k+1,by omega,by go_num,below_drewN HB1.out _,HNN.out⟩
    case measure=>simp [intOf];omega
  ·have HR:=Lh (hx_no (l:=l) (d:=d) (fun j hj=>HN.out j (by omega)))
   go_wp2
   go_ret
   exact ⟨-1,rfl,HR.out,HB.out⟩
open Classical in
theorem dcontain_any (A:Option Addr) (n c:Nat) (l:List Du) (d:Du) (w:World) (hv:Dl w w.heap.size (.slice A n c) l) :
  Calls Tryz.prog 195 #[.slice A n c,d.v] w fun e w'=>e=.returned (.bool (decide (d∈l)))/\Below w.heap.size w w':=by
 have HB:=Lh ((Below.refl w.heap.size w).alloc (nLR _) (.cells #[.int .i64 d.dl,.int .i64 d.id] 155))
 have HC:=Lh (dindex_any A n c l d _ (hv.up HB.out))
 clear hv
 go_enter Tryz.func195,Tryz.ntmps195
 go_wp2_with fail
 refine HC.out.mono ?_
 rintro e w1 ⟨r,rfl,hr,hb1⟩
 have HB1:=Lh (HB.out.trans (hb1.mono HB.out.size))
 have HR:=Lh (show decide (0<=r)=decide (d∈l) from by rw [Bool.eq_iff_iff,decide_eq_true_iff,decide_eq_true_iff];exact hr)
 clear hr hb1
 go_wp2
 go_ret
 exact ⟨by rw [<-HR.out];rfl,HB1.out⟩
open Classical in
theorem consists_any (A:Option Addr) (n c:Nat) (l:List Le) (A2:Option Addr) (n2 c2:Nat) (h:List Du) (w:World) (hv:El w w.heap.size (.slice A n c) l) (hd:Dl w w.heap.size (.slice A2 n2 c2) h) :
  Calls Tryz.prog 175 #[.slice A2 n2 c2,.slice A n c] w fun e w'=>e=.returned (.bool (cnF h l))/\Below w.heap.size w w':=by
 obtain ⟨rfl,hm1,hm2⟩:=hv.len
 obtain ⟨rfl,hm3,hm4⟩:=hd.len
 have hL:l.length<=9223372036854775807:=by unfold maxLen at hm2;omega
 have hH:h.length<=9223372036854775807:=by unfold maxLen at hm4;omega
 have HV:=Lh hv
 have HD:=Lh hd
 have HB:=Lh (Below.refl w.heap.size w)
 clear hv hd hm1 hm2 hm3 hm4
 go_enter Tryz.func175,Tryz.ntmps175
 go_wp2
 go_loopw [9] (fun i wr=>∃ k:Nat,k<=l.length/\i=.int .i64 k/\Below w.heap.size w wr/\∀ j,j<k->(lg l j).du∈h) (fun i _=>l.length - (intOf i).toNat)
 case atStart=>exact ⟨0,by omega,rfl,HB.out,fun j h=>absurd h (by omega)⟩
 case round=>
  obtain ⟨k,hk,rfl,hb,hno⟩:=hrel
  have HN:=Lh hno
  have HVK:=Lh (HV.out.up hb)
  have HDK:=Lh (HD.out.up hb)
  have HB:=Lh hb
  clear hno hb
  by_cases hlt:k<l.length
  ·obtain ⟨b,o,rfl,_⟩:=HVK.out.some_ (by omega)
   obtain ⟨⟨c0,c1,c2',c3,c4,c5,c6,c7⟩,hb⟩:=HVK.out.c8 hlt
   obtain ⟨X,hX⟩:∃ X,l[k]=X:=⟨_,rfl⟩
   rw [hX] at c0 c1 c2' c3 c4 c5 c6 c7
   have HX:=Lh (show lg l k=X by rw [<-lg_get hlt];exact hX)
   clear hX hb
   have HBW:=Lh ((Below.refl wr.heap.size wr).alloc (nLR _) (.cells #[.int .i64 X.m.id,.int .i64 X.m.rt,.int .i64 X.m.ep,.int .i64 X.m.ct,.int .i64 X.m.gn,.int .i64 X.m.st,.string X.m.bd,.int .i64 X.dl] 152))
   have HXB:=Lh (El8.start wr X 152)
   have HF:=Lh (fun W=>dueof_any X W)
   have HC:=Lh (fun W hb=>dcontain_any A2 h.length c2 h X.du W (HDK.out.up hb))
   have HCN:=Lh (cnF_no (h:=h) hlt)
   rw [HX.out] at HCN
   have HB2:=Lh HB.out
   go_wp2_with fail
   clear c0 c1 c2' c3 c4 c5 c6 c7
   obtain ⟨q,hq⟩:∃ q,q=wr.heap.size:=⟨_,rfl⟩
   rw [<-hq] at HXB ⊢
   clear hq
   generalize wr.alloc (.cells #[.int .i64 X.m.id,.int .i64 X.m.rt,.int .i64 X.m.ep,.int .i64 X.m.ct,.int .i64 X.m.gn,.int .i64 X.m.st,.string X.m.bd,.int .i64 X.dl] 152)=w2 at*
   by_cases hm:X.du∈h
   ·have HNN:=Lh (show ∀ j,j<k+1->(lg l j).du∈h from fun j h=>by
     by_cases e:j=k
     ·rw [e,HX.out];exact hm
     ·exact HN.out j (by omega))
    rw [decide_eq_true hm] at HC
    clear hm
    refine (HF.out _).mono ?_
    rintro e w3 ⟨rfl,hb⟩
    have HB3:=Lh (HBW.out.trans (hb.mono HBW.out.size))
    clear hb
    go_wp2_with fail
    refine (HC.out _ HB3.out).mono ?_
    rintro e w4 ⟨rfl,hb⟩
    have HB4:=Lh (HB2.out.trans ((HB3.out.trans (hb.mono HB3.out.size)).mono HB2.out.size))
    clear hb
    go_wp2
    go_roundw
    case rel=>exact ⟨k+1,by omega,by go_num,HB4.out,HNN.out⟩
    case measure=>simp [intOf];omega
   ·have HR:=Lh (HCN.out hm)
    rw [decide_eq_false hm] at HC
    clear hm
    refine (HF.out _).mono ?_
    rintro e w3 ⟨rfl,hb⟩
    have HB3:=Lh (HBW.out.trans (hb.mono HBW.out.size))
    clear hb
    go_wp2_with fail
    refine (HC.out _ HB3.out).mono ?_
    rintro e w4 ⟨rfl,hb⟩
    have HB4:=Lh (HB2.out.trans ((HB3.out.trans (hb.mono HB3.out.size)).mono HB2.out.size))
    clear hb
    go_wp2
    go_ret
    exact ⟨by rw [HR.out];rfl,HB4.out⟩
  ·have HR:=Lh (cnF_len (h:=h) (l:=l) (fun j hj=>HN.out j (by omega)))
   by_cases hle:h.length=l.length
   ·rw [decide_eq_true hle] at HR
    have hle' : ((h.length:Int)==(l.length:Int))=true:=by simpa using (by omega:(h.length:Int)=l.length)
    clear hle
    go_wp2
    go_ret
    exact ⟨by rw [HR.out];simp_all,HB.out⟩
   ·rw [decide_eq_false hle] at HR
    have hle' : ((h.length:Int)==(l.length:Int))=false:=by simpa using (by omega:¬(h.length:Int)=l.length)
    clear hle
    go_wp2
    go_ret
    exact ⟨by rw [HR.out];simp_all,HB.out⟩
theorem tbV_lst {l:List Le} {h:List Du} (h1:¬12<l.length) (h2:leS l 0≠0):tbV l h=leS l 0:=by
 unfold tbV;rw [if_neg h1,if_pos h2]
theorem lvalid_any (A:Option Addr) (n c:Nat) (l:List Le) (A2:Option Addr) (n2 c2:Nat) (h:List Du) (w:World) (hv:El w w.heap.size (.slice A n c) l) (hd:Dl w w.heap.size (.slice A2 n2 c2) h) :
  Calls Tryz.prog 160 #[tv A n c A2 n2 c2] w fun e w'=>e=.returned (.int .i64 (tbV l h))/\Below w.heap.size w w':=by
 obtain ⟨rfl,hm1,hm2⟩:=hv.len
 obtain ⟨rfl,hm3,hm4⟩:=hd.len
 have H0:=Lh (VaA.start 70 hv hd)
 clear hv hd hm1 hm2 hm3 hm4
 by_cases h12:12<l.length
 ·have HR:=Lh (tbV_2 (h:=h) h12)
  have h12' : (12:Int)<(l.length:Int):=by omega
  have HB:=Lh H0.out.bel
  obtain ⟨t0,t1,tl⟩:=H0.out.tb
  clear h12
  go_enter Tryz.func160,Tryz.ntmps160
  go_wp2
  go_ret
  exact ⟨by rw [HR.out];rfl,HB.out⟩
 have h12' : ¬(12:Int)<(l.length:Int):=by omega
 have H12:=Lh h12
 clear h12
 have HL:=Lh (fun p W (k:VaA w p A c l A2 c2 h W)=>listerr_any A l.length c l W k.el)
 have HD:=Lh (fun p W (k:VaA w p A c l A2 c2 h W)=>dvalid_any A2 h.length c2 h W k.dl)
 have HC:=Lh (fun p W (k:VaA w p A c l A2 c2 h W)=>consists_any A l.length c l A2 h.length c2 h W k.el k.dl)
 by_cases h1:leS l 0=0
 ·rw [h1] at HL
  by_cases h2:vaF h=0
  ·rw [h2] at HD
   have HCO:=Lh (cnF_ofT h1 h2)
   cases h3:ofT (l.map Le.du) h with
   | false=>
    have HR:=Lh (tbV_7 H12.out h1 h2 h3)
    rw [HCO.out,h3] at HC
    clear HCO h1 h2 h3
    go_enter Tryz.func160,Tryz.ntmps160
    obtain ⟨t0,t1,tl⟩:=H0.out.tb
    go_wp2_with fail
    obtain ⟨p,hp⟩:∃ p,p=w.heap.size:=⟨_,rfl⟩
    rw [<-hp] at H0 ⊢
    clear t0 t1 tl hp
    generalize w.alloc (.cells #[.slice A l.length c,.slice A2 h.length c2] 70)=w1 at*
    refine (HL.out _ _ H0.out).mono ?_
    rintro e w2 ⟨rfl,hb⟩
    have H1:=Lh (H0.out.below hb)
    obtain ⟨t0,t1,tl⟩:=H1.out.tb
    clear hb
    go_wp2_with fail
    clear t0 t1 tl
    refine (HD.out _ _ H1.out).mono ?_
    rintro e w3 ⟨rfl,hb⟩
    have H2:=Lh (H1.out.below hb)
    obtain ⟨t0,t1,tl⟩:=H2.out.tb
    clear hb
    go_wp2_with fail
    clear t0 t1 tl
    refine (HC.out _ _ H2.out).mono ?_
    rintro e w4 ⟨rfl,hb⟩
    have H3:=Lh (H2.out.below hb).bel
    clear hb
    go_wp2
    go_ret
    exact ⟨by rw [HR.out];rfl,H3.out⟩
   | true=>
    have HR:=Lh (tbV_0 H12.out h1 h2 h3)
    rw [HCO.out,h3] at HC
    clear HCO h1 h2 h3
    go_enter Tryz.func160,Tryz.ntmps160
    obtain ⟨t0,t1,tl⟩:=H0.out.tb
    go_wp2_with fail
    obtain ⟨p,hp⟩:∃ p,p=w.heap.size:=⟨_,rfl⟩
    rw [<-hp] at H0 ⊢
    clear t0 t1 tl hp
    generalize w.alloc (.cells #[.slice A l.length c,.slice A2 h.length c2] 70)=w1 at*
    refine (HL.out _ _ H0.out).mono ?_
    rintro e w2 ⟨rfl,hb⟩
    have H1:=Lh (H0.out.below hb)
    obtain ⟨t0,t1,tl⟩:=H1.out.tb
    clear hb
    go_wp2_with fail
    clear t0 t1 tl
    refine (HD.out _ _ H1.out).mono ?_
    rintro e w3 ⟨rfl,hb⟩
    have H2:=Lh (H1.out.below hb)
    obtain ⟨t0,t1,tl⟩:=H2.out.tb
    clear hb
    go_wp2_with fail
    clear t0 t1 tl
    refine (HC.out _ _ H2.out).mono ?_
    rintro e w4 ⟨rfl,hb⟩
    have H3:=Lh (H2.out.below hb).bel
    clear hb
    go_wp2
    go_ret
    exact ⟨by rw [HR.out];rfl,H3.out⟩
  ·have HR:=Lh (tbV_va H12.out h1 h2)
   have h2' : (vaF h != 0)=true:=by simpa using h2
   clear h1 h2
   generalize vaF h=z at*
   go_enter Tryz.func160,Tryz.ntmps160
   obtain ⟨t0,t1,tl⟩:=H0.out.tb
   go_wp2_with fail
   obtain ⟨p,hp⟩:∃ p,p=w.heap.size:=⟨_,rfl⟩
   rw [<-hp] at H0 ⊢
   clear t0 t1 tl hp
   generalize w.alloc (.cells #[.slice A l.length c,.slice A2 h.length c2] 70)=w1 at*
   refine (HL.out _ _ H0.out).mono ?_
   rintro e w2 ⟨rfl,hb⟩
   have H1:=Lh (H0.out.below hb)
   obtain ⟨t0,t1,tl⟩:=H1.out.tb
   clear hb
   go_wp2_with fail
   clear t0 t1 tl
   refine (HD.out _ _ H1.out).mono ?_
   rintro e w3 ⟨rfl,hb⟩
   have H2:=Lh (H1.out.below hb).bel
   clear hb
   go_wp2
   go_ret
   exact ⟨by rw [HR.out];rfl,H2.out⟩
 ·have HR:=Lh (tbV_lst (h:=h) H12.out h1)
  have h1' : (leS l 0 != 0)=true:=by simpa using h1
  clear h1
  generalize leS l 0=z at*
  go_enter Tryz.func160,Tryz.ntmps160
  obtain ⟨t0,t1,tl⟩:=H0.out.tb
  go_wp2_with fail
  obtain ⟨p,hp⟩:∃ p,p=w.heap.size:=⟨_,rfl⟩
  rw [<-hp] at H0 ⊢
  clear t0 t1 tl hp
  generalize w.alloc (.cells #[.slice A l.length c,.slice A2 h.length c2] 70)=w1 at*
  refine (HL.out _ _ H0.out).mono ?_
  rintro e w2 ⟨rfl,hb⟩
  have H1:=Lh (H0.out.below hb).bel
  clear hb
  go_wp2
  go_ret
  exact ⟨by rw [HR.out];rfl,H1.out⟩
abbrev K8 (p:Nat) (S:Sh) (D:Sx) (W:World):Prop:=W.cell? ⟨p,0,none⟩=some (.bool S.lv)/\W.cell? ⟨p,1,none⟩=some (.int .i64 S.lo)/\W.cell? ⟨p,2,none⟩=some (.int .i64 S.hi)/\W.cell? ⟨p,3,none⟩=some (.slice D.A S.cs.length D.c)/\W.cell? ⟨p,4,none⟩=some (.int .i64 S.hd)/\W.cell? ⟨p,5,none⟩=some (.int .i64 S.sz)/\W.cell? ⟨p,6,none⟩=some (.slice D.A2 S.l.length D.c2)/\W.cell? ⟨p,7,none⟩=some (.slice D.A3 S.h.length D.c3)
theorem SAt.k8 {w W:World} {p:Nat} {S:Sh} {D:Sx} (h:SAt w p S D W):K8 p S D W:=⟨h.s8.c0,h.s8.c1,h.s8.c2,h.s8.c3,h.s8.c4,h.s8.c5,h.s8.c6,h.s8.c7⟩
theorem SB8.k8 {W:World} {p:Nat} {S:Sh} {D:Sx} (h:SB8 W p S D):K8 p S D W:=⟨h.c0,h.c1,h.c2,h.c3,h.c4,h.c5,h.c6,h.c7⟩
def ShAt (p:Nat) (S:Sh) (D:Sx) (W:World):Prop:=p<W.heap.size/\K8 p S D W
theorem ShAt.below {p:Nat} {S:Sh} {D:Sx} (W W' : World) (h:ShAt p S D W) (hb:Below W.heap.size W W'):ShAt p S D W':=by
 obtain ⟨hp,h0,h1,h2,h3,h4,h5,h6,h7⟩:=h
 have c:∀ o,W'.cell? ⟨p,o,none⟩=W.cell? ⟨p,o,none⟩:=fun o=>hb.cell (p:=⟨p,o,none⟩) hp
 exact ⟨Nat.lt_of_lt_of_le hp hb.size,(c 0).trans h0,(c 1).trans h1,(c 2).trans h2,(c 3).trans h3,(c 4).trans h4,(c 5).trans h5,(c 6).trans h6,(c 7).trans h7⟩
theorem live1_any (p:Nat) (S:Sh) (D:Sx) (M:Msg) (w:World) (h:ShAt p S D w) :
  Calls Tryz.prog 179 #[M.v,.pointer (some ⟨p,0,none⟩)] w fun e w'=>e=.returned (.bool (!wi M.rt S.lo S.hi))/\Below w.heap.size w w':=by
 have HB:=Lh ((Below.refl w.heap.size w).alloc (nLR _) (.cells M.cs 79))
 obtain ⟨hp,h0,h1,h2,h3,h4,h5,h6,h7⟩:=h
 have HC:=Lh (fun W=>shas_any S D M.rt W)
 generalize wi M.rt S.lo S.hi=b at*
 go_enter Tryz.func179,Tryz.ntmps179
 go_wp2_with fail
 refine (HC.out _).mono ?_
 rintro e w1 ⟨rfl,hb⟩
 have HB1:=Lh (HB.out.trans (hb.mono HB.out.size))
 clear hb
 go_wp2
 go_ret
 exact ⟨rfl,HB1.out⟩
theorem liE_1 {S:Sh} (h:spB S.lo S.hi=false):liE S=1:=if_pos h
theorem liE_3 {S:Sh} (h:spB S.lo S.hi=true) (h2:(S.cs.length:Int)<S.sz+S.l.length):liE S=3:=by unfold liE;rw [if_neg (by simp [h]),if_pos h2]
theorem liE_12 {S:Sh} (h:spB S.lo S.hi=true) (h2:¬(S.cs.length:Int)<S.sz+S.l.length) (h3:rtB S.lo S.hi S.al=true):liE S=12:=by unfold liE;rw [if_neg (by simp [h]),if_neg h2,if_pos h3]
theorem liE_10 {S:Sh} (h:spB S.lo S.hi=true) (h2:¬(S.cs.length:Int)<S.sz+S.l.length) (h3:rtB S.lo S.hi S.al=false) (h4:dpB S.al=true):liE S=10:=by unfold liE;rw [if_neg (by simp [h]),if_neg h2,if_neg (by simp [h3]),if_pos h4]
theorem liE_0 {S:Sh} (h:spB S.lo S.hi=true) (h2:¬(S.cs.length:Int)<S.sz+S.l.length) (h3:rtB S.lo S.hi S.al=false) (h4:dpB S.al=false):liE S=0:=by unfold liE;rw [if_neg (by simp [h]),if_neg h2,if_neg (by simp [h3]),if_neg (by simp [h4])]
theorem slive_any (S:Sh) (D:Sx) (w:World) (hs:SR w w.heap.size S D) (h0:0<=S.sz) (h1:S.sz<=12) (h2:S.l.length<=12) :
  Calls Tryz.prog 161 #[sv S D] w (VlT w (liE S)):=by
 have H0:=Lh (SAt.start 72 hs)
 have HSP:=Lh (fun W=>sspan_any S.lo S.hi W)
 have HSZ:=Lh (fun W=>ssize_any S D W h0 (by omega) (by omega))
 have HCA:=Lh (fun W=>scap_any S D W)
 have HMS:=Lh (fun p W (k:SAt w p S D W)=>smsgs_any S D W k.sr (by omega))
 have HCF:=Lh (fun p A c W (k:SAt w p S D W) (hl:Ls W W.heap.size (.slice A S.al.length c) S.al)=>cofuncV A S.al.length c S.al (.pointer (some ⟨p,0,none⟩)) (fun M=>!wi M.rt S.lo S.hi) (ShAt p S D) W hl ⟨k.lt,k.k8⟩ ShAt.below (fun M W h=>live1_any p S D M W h))
 have HDU:=Lh (fun A c W (hl:Ls W W.heap.size (.slice A S.al.length c) S.al)=>ssameid_any A S.al.length c S.al W hl)
 have HE1:=Lh (fun h=>liE_1 (S:=S) h)
 have HE3:=Lh (fun h g=>liE_3 (S:=S) h g)
 have HE12:=Lh (fun h g k=>liE_12 (S:=S) h g k)
 have HE10:=Lh (fun h g k d=>liE_10 (S:=S) h g k d)
 have HE0:=Lh (fun h g k d=>liE_0 (S:=S) h g k d)
 have HRT:Hid (rtB S.lo S.hi S.al=S.al.any (fun M=>!wi M.rt S.lo S.hi)):=Lh rfl
 have hmf:∀ (fn:Fn) (first cap:Array Value) (w:World),(Instr.makeFunc fn first cap).run Tryz.prog w=.ok (.func fn first cap) w:=fun _ _ _ _=>rfl
 clear hs h0 h1 h2
 generalize liE S=x at*
 go_enter Tryz.func161,Tryz.ntmps161
 obtain ⟨t0,t1,t2,t3,t4,t5,t6,t7,tl⟩:=H0.out.s8.facts
 go_wp2_with fail
 clear t0 t1 t2 t3 t4 t5 t6 t7 tl
 obtain ⟨p,hp⟩:∃ p,p=w.heap.size:=⟨_,rfl⟩
 rw [<-hp]
 rw [<-hp] at H0
 clear hp
 generalize w.alloc (.cells #[.bool S.lv,.int .i64 S.lo,.int .i64 S.hi,.slice D.A S.cs.length D.c,.int .i64 S.hd,.int .i64 S.sz,.slice D.A2 S.l.length D.c2,.slice D.A3 S.h.length D.c3] 72)=w1 at*
 refine (HSP.out _).mono ?_
 rintro e w2 ⟨rfl,rfl⟩
 cases hsp:spB S.lo S.hi with
 | false=>
  have HX:=Lh (HE1.out hsp)
  go_wp2
  go_ret
  exact ⟨by rw [HX.out];rfl,H0.out.bel⟩
 | true=>
  have HX1:=Lh hsp
  clear hsp
  have HD:=Lh H0.out.drew
  have HT0:=Lh (show K8 p S D w1.drew from HD.out.k8)
  obtain ⟨t0,t1,t2,t3,t4,t5,t6,t7,tl⟩:=HD.out.s8.facts
  go_wp2_with fail
  by_cases hfu:(S.cs.length:Int)<S.sz+S.l.length
  ·go_region_held3 (fun W=>K8 p S D W)
    (first | with_reducible exact HT0.out | with_reducible exact HT1.out | with_reducible exact HT2.out)
    (first
    | (go_at_call 162;(with_reducible refine (HSZ.out _).mono ?_);rintro e w3 ⟨rfl,hb⟩;have HA1:=Lh (HD.out.below hb);have HT1:=Lh HA1.out.k8;clear hb)
    | (go_at_call 176;(with_reducible refine (HCA.out _).mono ?_);rintro e w4 ⟨rfl,hb⟩;have HA2:=Lh (HA1.out.below hb);have HT2:=Lh HA2.out.k8;clear hb))
   have HX:=Lh (HE3.out HX1.out hfu)
   go_wp2
   go_ret
   exact ⟨by rw [HX.out];rfl,HA2.out.bel⟩
  ·go_region_held3 (fun W=>K8 p S D W)
    (first | with_reducible exact HT0.out | with_reducible exact HT1.out | with_reducible exact HT2.out)
    (first
    | (go_at_call 162;(with_reducible refine (HSZ.out _).mono ?_);rintro e w3 ⟨rfl,hb⟩;have HA1:=Lh (HD.out.below hb);have HT1:=Lh HA1.out.k8;clear hb)
    | (go_at_call 176;(with_reducible refine (HCA.out _).mono ?_);rintro e w4 ⟨rfl,hb⟩;have HA2:=Lh (HA1.out.below hb);have HT2:=Lh HA2.out.k8;clear hb))
   have HX2:=Lh hfu
   clear t0 t1 t2 t3 t4 t5 t6 t7 tl
   obtain ⟨t0,t1,t2,t3,t4,t5,t6,t7,tl⟩:=HA2.out.s8.facts
   go_wp2_with fail
   clear t0 t1 t2 t3 t4 t5 t6 t7 tl
   refine (HMS.out _ _ HA2.out).mono ?_
   rintro e w5 ⟨A5,c5,rfl,hw5,hb⟩
   have HA3:=Lh (HA2.out.below hb)
   have HL5:=Lh hw5.ls
   clear hw5 hb
   go_wp2_with fail
   refine (HCF.out _ _ _ _ HA3.out HL5.out).mono ?_
   rintro e w6 ⟨rfl,hb⟩
   rw [<-HRT.out]
   have HA4:=Lh (HA3.out.below hb)
   have HL6:=Lh (HL5.out.up hb)
   clear hb
   cases h3:rtB S.lo S.hi S.al with
   | true=>
    have HX:=Lh (HE12.out HX1.out HX2.out h3)
    go_wp2
    go_ret
    exact ⟨by rw [HX.out];rfl,HA4.out.bel⟩
   | false=>
    have HX3:=Lh h3
    clear h3
    go_wp2_with fail
    refine (HDU.out _ _ _ HL6.out).mono ?_
    rintro e w7 ⟨rfl,hb⟩
    have HA5:=Lh (HA4.out.below hb)
    clear hb
    cases h4:dpB S.al with
    | true=>
     have HX:=Lh (HE10.out HX1.out HX2.out HX3.out h4)
     go_wp2
     go_ret
     exact ⟨by rw [HX.out];rfl,HA5.out.bel⟩
    | false=>
     have HX:=Lh (HE0.out HX1.out HX2.out HX3.out h4)
     go_wp2
     go_ret
     exact ⟨by rw [HX.out];rfl,HA5.out.bel⟩
theorem shV_rg {S:Sh} (h:rgV S.cs S.hd S.sz≠0):shV S=rgV S.cs S.hd S.sz:=if_pos h
theorem shV_tb {S:Sh} (h:rgV S.cs S.hd S.sz=0) (h1:tbV S.l S.h≠0):shV S=tbV S.l S.h:=by unfold shV;rw [if_neg (fun g=>g h),if_pos h1]
theorem shV_li {S:Sh} (h:rgV S.cs S.hd S.sz=0) (h1:tbV S.l S.h=0) (h2:S.lv=true):shV S=liE S:=by unfold shV;rw [if_neg (fun g=>g h),if_neg (fun g=>g h1),if_pos h2]
theorem shV_of {S:Sh} (h:rgV S.cs S.hd S.sz=0) (h1:tbV S.l S.h=0) (h2:S.lv=false):shV S=if S.lo≠0\/S.hi≠0\/0<S.sz+S.l.length then 7 else 0:=by unfold shV;rw [if_neg (fun g=>g h),if_neg (fun g=>g h1),if_neg (by simp [h2])]
theorem rg_nums {cs:List Msg} {hd sz:Int} (h:rgV cs hd sz=0):1<=cs.length/\cs.length<=12/\0<=sz/\sz<=12:=by
 have:=nm_of (rgV_zero h).1
 omega
theorem tb_nums {l:List Le} {h:List Du} (e:tbV l h=0):l.length<=12/\h.length<=12:=by
 have t:=(tbV_iff l h).1 e
 have:=t.len
 have:=t.hlen
 omega
theorem svalid_any (S:Sh) (D:Sx) (w:World) (hs:SR w w.heap.size S D) :
  Calls Tryz.prog 139 #[sv S D] w (VlT w (shV S)):=by
 have H0:=Lh (SAt.start 72 hs)
 have HRG:=Lh (fun p W (k:SAt w p S D W)=>gvalid_any D.A S.cs.length D.c S.cs S.hd S.sz W k.sr.ls)
 have HTB:=Lh (fun p W (k:SAt w p S D W)=>lvalid_any D.A2 S.l.length D.c2 S.l D.A3 S.h.length D.c3 S.h W k.sr.el k.sr.dl)
 clear hs
 go_enter Tryz.func139,Tryz.ntmps139
 obtain ⟨t0,t1,t2,t3,t4,t5,t6,t7,tl⟩:=H0.out.s8.facts
 go_wp2_with fail
 clear t0 t1 t2 t3 t4 t5 t6 t7 tl
 obtain ⟨p,hp⟩:∃ p,p=w.heap.size:=⟨_,rfl⟩
 rw [<-hp]
 rw [<-hp] at H0
 clear hp
 generalize w.alloc (.cells #[.bool S.lv,.int .i64 S.lo,.int .i64 S.hi,.slice D.A S.cs.length D.c,.int .i64 S.hd,.int .i64 S.sz,.slice D.A2 S.l.length D.c2,.slice D.A3 S.h.length D.c3] 72)=w1 at*
 refine (HRG.out _ _ H0.out).mono ?_
 rintro e w2 ⟨rfl,hb⟩
 have H1:=Lh (H0.out.below hb)
 clear hb
 by_cases h1:rgV S.cs S.hd S.sz=0
 ·have HNU:=Lh (rg_nums h1)
  have HX1:=Lh h1
  rw [h1]
  clear h1
  obtain ⟨t0,t1,t2,t3,t4,t5,t6,t7,tl⟩:=H1.out.s8.facts
  go_wp2_with fail
  clear t0 t1 t2 t3 t4 t5 t6 t7 tl
  refine (HTB.out _ _ H1.out).mono ?_
  rintro e w3 ⟨rfl,hb⟩
  have H2:=Lh (H1.out.below hb)
  clear hb
  by_cases h2:tbV S.l S.h=0
  ·have HNT:=Lh (tb_nums h2)
   have HX2:=Lh h2
   rw [h2]
   clear h2
   have HLI:=Lh (slive_any S D w3 H2.out.sr HNU.out.2.2.1 HNU.out.2.2.2 HNT.out.1)
   have HSZ:=Lh (fun W=>ssize_any S D W HNU.out.2.2.1 (by have:=HNU.out.2.2.2;omega) (by have:=HNT.out.1;omega))
   cases hlv:S.lv with
   | true=>
    have HX:=Lh (shV_li HX1.out HX2.out hlv)
    have hsv:(Value.agg #[.bool true,.int .i64 S.lo,.int .i64 S.hi,.slice D.A S.cs.length D.c,.int .i64 S.hd,.int .i64 S.sz,.slice D.A2 S.l.length D.c2,.slice D.A3 S.h.length D.c3])=sv S D:=by show _=Value.agg _;rw [hlv]
    obtain ⟨t0,t1,t2,t3,t4,t5,t6,t7,tl⟩:=H2.out.s8.facts
    rw [hlv] at t0
    clear hlv
    go_wp2_with fail
    clear t0 t1 t2 t3 t4 t5 t6 t7 tl
    refine HLI.out.mono ?_
    rintro e w4 ⟨rfl,hb⟩
    have H3:=Lh (H2.out.below hb)
    clear hb
    go_wp2
    go_ret
    exact ⟨by rw [HX.out];rfl,H3.out.bel⟩
   | false=>
    have HX:=Lh (shV_of HX1.out HX2.out hlv)
    have hsv:(Value.agg #[.bool false,.int .i64 S.lo,.int .i64 S.hi,.slice D.A S.cs.length D.c,.int .i64 S.hd,.int .i64 S.sz,.slice D.A2 S.l.length D.c2,.slice D.A3 S.h.length D.c3])=sv S D:=by show _=Value.agg _;rw [hlv]
    obtain ⟨t0,t1,t2,t3,t4,t5,t6,t7,tl⟩:=H2.out.s8.facts
    rw [hlv] at t0
    clear hlv
    by_cases hlo:S.lo=0
    ·have blo:(S.lo != 0)=false:=by simp [hlo]
     have HLO:=Lh hlo
     clear hlo
     by_cases hhi:S.hi=0
     ·have bhi:(S.hi != 0)=false:=by simp [hhi]
      have HHI:=Lh hhi
      clear hhi
      have HSZ':=Lh (fun W=>HSZ.out W)
      by_cases hz:0<S.sz+S.l.length
      ·go_wp2_with fail
       refine (HSZ'.out _).mono ?_
       rintro e w4 ⟨rfl,hb⟩
       have H3:=Lh (H2.out.below hb)
       clear hb
       go_wp2
       go_ret
       exact ⟨by rw [HX.out,if_pos (.inr (.inr hz))];rfl,H3.out.bel⟩
      ·go_wp2_with fail
       refine (HSZ'.out _).mono ?_
       rintro e w4 ⟨rfl,hb⟩
       have H3:=Lh (H2.out.below hb)
       clear hb
       go_wp2
       go_ret
       exact ⟨by rw [HX.out,if_neg (by have:=HLO.out;have:=HHI.out;omega)];rfl,H3.out.bel⟩
     ·have bhi:(S.hi != 0)=true:=by simp [hhi]
      have HHI:=Lh hhi
      clear hhi
      go_wp2
      go_ret
      exact ⟨by rw [HX.out,if_pos (.inr (.inl HHI.out))];rfl,H2.out.bel⟩
    ·have blo:(S.lo != 0)=true:=by simp [hlo]
     have HLO:=Lh hlo
     clear hlo
     go_wp2
     go_ret
     exact ⟨by rw [HX.out,if_pos (.inl HLO.out)];rfl,H2.out.bel⟩
  ·have HX:=Lh (shV_tb HX1.out h2)
   have hne:(tbV S.l S.h != 0)=true:=bne_iff_ne.2 h2
   clear h2
   generalize tbV S.l S.h=x at*
   go_wp2
   go_ret
   exact ⟨by rw [HX.out];rfl,H2.out.bel⟩
 ·have HX:=Lh (shV_rg h1)
  have hne:(rgV S.cs S.hd S.sz != 0)=true:=bne_iff_ne.2 h1
  clear h1
  generalize rgV S.cs S.hd S.sz=x at*
  go_wp2
  go_ret
  exact ⟨by rw [HX.out];rfl,H1.out.bel⟩
structure Rn where
 n:Int
 lo:Int
 hi:Int
def Rn.l (x:Rn):List Value:=[.int .i64 x.n,.int .i64 x.lo,.int .i64 x.hi]
def Rn.ok (x:Rn):Bool:=wi x.n x.lo x.hi
def rcs (R:List Rn):List Value:=R.flatMap Rn.l
theorem rcs_cons (x:Rn) (R:List Rn):rcs (x::R)=x.l++rcs R:=rfl
theorem rcs_drop (R:List Rn) (k:Nat):(rcs R).drop (k*3)=rcs (R.drop k):=by
 induction k generalizing R with
 | zero=>simp
 | succ k ih=>
  cases R with
  | nil=>simp [rcs]
  | cons x R=>
   rw [rcs_cons,List.drop_succ_cons,<-ih,show (k+1)*3=x.l.length+k*3 by simp [Rn.l];omega,List.drop_append,List.drop_eq_nil_of_le (by omega)]
   simp
theorem rcs_at (R:List Rn) (k j:Nat) (hk:k<R.length) (hj:j<3):(rcs R)[k*3+j]? = R[k].l[j]?:=by
 have h:=rcs_drop R k
 have e:(rcs R)[k*3+j]? = ((rcs R).drop (k*3))[j]?:=by rw [List.getElem?_drop]
 rw [e,h,List.drop_eq_getElem_cons hk,rcs_cons,List.getElem?_append_left (by simp [Rn.l];exact hj)]
def Nl (W:World) (B:Nat) (v:Value) (R:List Rn):Prop:=∃ A c,v=.slice A R.length c/\R.length<=c/\c<=maxLen/\Rd W B 3 A R.length (rcs R)
section
variable {W W' : World} {B:Nat} {v:Value} {R:List Rn} {A:Option Addr} {n c:Nat}
theorem Nl.below (h:Nl W B v R) (hb:Below B W W'):Nl W' B v R:=by
 obtain ⟨A,c,e,h1,h2,h3⟩:=h;exact ⟨A,c,e,h1,h2,h3.below hb⟩
theorem Nl.len (h:Nl W B (.slice A n c) R):n=R.length/\n<=c/\c<=maxLen:=by
 obtain ⟨A',c',e,hl,hm,h⟩:=h
 injection e with e1 e2 e3
 subst e2;subst e3
 exact ⟨rfl,hl,hm⟩
theorem Nl.at_ {k:Nat} (h:Nl W B (.slice A n c) R) (hk:k<R.length):∃ b o,A=some ⟨b,o,none⟩/\b<B/\W.cell? ⟨b,o+k*3,none⟩=some (.int .i64 R[k].n)/\W.cell? ⟨b,o+k*3+1,none⟩=some (.int .i64 R[k].lo)/\W.cell? ⟨b,o+k*3+2,none⟩=some (.int .i64 R[k].hi):=by
 obtain ⟨A',c',e,hl,hm,hr⟩:=h
 injection e with e1 e2 e3
 subst e1
 obtain ⟨b,o,e,hb,hc⟩:=hr.2 (by omega)
 have g:∀ j u,j<3->R[k].l[j]? = some u->W.cell? ⟨b,o+k*3+j,none⟩=some u:=fun j u hj hu=>by
  rw [Nat.add_assoc];exact hc _ u (by rw [rcs_at R k j hk hj];exact hu)
 exact ⟨b,o,e,hb,g 0 _ (by omega) rfl,g 1 _ (by omega) rfl,g 2 _ (by omega) rfl⟩
end
theorem sexam_any (S:Sh) (D:Sx) (A:Option Addr) (n c:Nat) (R:List Rn) (w:World) (hs:SR w w.heap.size S D) (hn:Nl w w.heap.size (.slice A n c) R) :
  Calls Tryz.prog 143 #[sv S D,.slice A n c] w (VlT w (exS S (R.all Rn.ok))):=by
 obtain ⟨rfl,hm1,hm2⟩:=hn.len
 have hL:R.length<=9223372036854775807:=by unfold maxLen at hm2;omega
 have H0:=Lh (SAt.start 72 hs)
 have HN:=Lh hn
 have HV:=Lh (fun p W (k:SAt w p S D W)=>svalid_any S D W k.sr)
 clear hs hn hm1 hm2
 go_enter Tryz.func143,Tryz.ntmps143
 obtain ⟨t0,t1,t2,t3,t4,t5,t6,t7,tl⟩:=H0.out.s8.facts
 go_wp2_with fail
 clear t0 t1 t2 t3 t4 t5 t6 t7 tl
 obtain ⟨p,hp⟩:∃ p,p=w.heap.size:=⟨_,rfl⟩
 rw [<-hp]
 rw [<-hp] at H0
 clear hp
 generalize w.alloc (.cells #[.bool S.lv,.int .i64 S.lo,.int .i64 S.hi,.slice D.A S.cs.length D.c,.int .i64 S.hd,.int .i64 S.sz,.slice D.A2 S.l.length D.c2,.slice D.A3 S.h.length D.c3] 72)=w1 at*
 refine (HV.out _ _ H0.out).mono ?_
 rintro e w2 ⟨rfl,hb⟩
 have H1:=Lh (H0.out.below hb)
 clear hb
 by_cases h1:shV S=0
 ·have HX1:=Lh h1
  rw [h1]
  clear h1
  cases hlv:S.lv with
  | false=>
   have HX:=Lh (exS_off (R.all Rn.ok) HX1.out hlv)
   obtain ⟨t0,t1,t2,t3,t4,t5,t6,t7,tl⟩:=H1.out.s8.facts
   rw [hlv] at t0
   clear hlv t1 t2 t3 t4 t5 t6 t7
   go_wp2
   go_ret
   exact ⟨by rw [HX.out];rfl,H1.out.bel⟩
  | true=>
   have HXN:=Lh (fun hb=>exS_num (S:=S) (b:=R.all Rn.ok) HX1.out hlv hb)
   have HXK:=Lh (fun hb=>exS_ok (S:=S) (b:=R.all Rn.ok) HX1.out hlv hb)
   obtain ⟨t0,t1,t2,t3,t4,t5,t6,t7,tl⟩:=H1.out.s8.facts
   rw [hlv] at t0
   clear hlv t1 t2 t3 t4 t5 t6 t7
   go_wp2
   clear t0 tl
   have HB1:=Lh H1.out.bel
   go_loopw [18] (fun i wr=>∃ k:Nat,k<=R.length/\i=.int .i64 k/\Below w.heap.size w wr/\∀ j (hj:j<R.length),j<k->R[j].ok=true) (fun i _=>R.length - (intOf i).toNat)
   case atStart=>exact ⟨0,Nat.zero_le _,rfl,HB1.out,fun j _ h=>absurd h (by omega)⟩
   case round=>
    obtain ⟨k,hk,rfl,hb,hno⟩:=hrel
    have HNO:=Lh hno
    have HB:=Lh hb
    have HNK:=Lh (HN.out.below hb)
    clear hb hno
    by_cases hlt:k<R.length
    ·obtain ⟨b,o,rfl,hb,c0,c1,c2⟩:=HNK.out.at_ hlt
     have HBA:=Lh (HB.out.alloc HB.out.size (.cells #[.int .i64 R[k].n,.int .i64 R[k].lo,.int .i64 R[k].hi] 209))
     cases he:R[k].ok with
     | true=>
      have HNN:=Lh (show ∀ j (hj:j<R.length),j<k+1->R[j].ok=true from fun j hj h=>by
       by_cases e:j=k
       ·subst e;exact he
       ·exact HNO.out j hj (by omega))
      have HC:=Lh (fun W=>swithin_any R[k].n R[k].lo R[k].hi W)
      rw [show wi R[k].n R[k].lo R[k].hi=true from he] at HC
      clear he
      generalize R[k]=X at*
      go_wp2_with fail
      refine (HC.out _).mono ?_
      rintro e w3 ⟨rfl,rfl⟩
      go_wp2
      go_roundw
      case rel=>exact ⟨k+1,by omega,by go_num,HBA.out,HNN.out⟩
      case measure=>simp [intOf];omega
     | false=>
      have HX:=Lh (HXN.out (by
       cases h:R.all Rn.ok with
       | false=>rfl
       | true=>rw [List.all_eq_true.1 h _ (List.getElem_mem hlt)] at he;cases he))
      have HC:=Lh (fun W=>swithin_any R[k].n R[k].lo R[k].hi W)
      rw [show wi R[k].n R[k].lo R[k].hi=false from he] at HC
      clear he
      generalize R[k]=X at*
      go_wp2_with fail
      refine (HC.out _).mono ?_
      rintro e w3 ⟨rfl,rfl⟩
      go_wp2
      go_ret
      exact ⟨by rw [HX.out];rfl,HBA.out⟩
    ·have HX:=Lh (HXK.out (List.all_eq_true.2 fun x hx=>by
      obtain ⟨j,hj,rfl⟩:=List.mem_iff_getElem.1 hx
      exact HNO.out j hj (by omega)))
     go_wp2
     go_ret
     exact ⟨by rw [HX.out];rfl,HB.out⟩
 ·have HX:=Lh (exS_bad (R.all Rn.ok) h1)
  have hne:(shV S != 0)=true:=bne_iff_ne.2 h1
  clear h1
  generalize shV S=x at*
  go_wp2
  go_ret
  exact ⟨by rw [HX.out];rfl,H1.out.bel⟩
end Go.Proofs.YtkecnihgjepfeaaGreat
