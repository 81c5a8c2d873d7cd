/- What is proved here: parts of the proof: Shx She Gro Sho Shn Lpl. -/
import Derived.Test.YtkecnihgjepfeaaGreatJ17
import Derived.Deep.LoopGhost
namespace Go.Proofs.YtkecnihgjepfeaaGreat
open Go.RowKit
set_option linter.unusedVariables false
set_option linter.unusedSimpArgs false
set_option maxHeartbeats 8000000
set_option maxRecDepth 20000
theorem shV_rg {S:Sh} (h:rgV S.cs S.hd S.sz≠0):shV S=rgV S.cs S.hd S.sz:=if_pos h
theorem shV_tb {S:Sh} (h:rgV S.cs S.hd S.sz=0) (h1:tbV S.l S.h≠0):shV S=tbV S.l S.h:=by unfold shV;rw [if_neg (fun g=>g h),if_pos h1]
theorem shV_li {S:Sh} (h:rgV S.cs S.hd S.sz=0) (h1:tbV S.l S.h=0) (h2:S.lv=true):shV S=liE S:=by unfold shV;rw [if_neg (fun g=>g h),if_neg (fun g=>g h1),if_pos h2]
theorem shV_of {S:Sh} (h:rgV S.cs S.hd S.sz=0) (h1:tbV S.l S.h=0) (h2:S.lv=false):shV S=if S.lo≠0\/S.hi≠0\/0<S.sz+S.l.length then 7 else 0:=by unfold shV;rw [if_neg (fun g=>g h),if_neg (fun g=>g h1),if_neg (by simp [h2])]
theorem rg_nums {cs:List Msg} {hd sz:Int} (h:rgV cs hd sz=0):1<=cs.length/\cs.length<=12/\0<=sz/\sz<=12:=by
 have:=nm_of (rgV_zero h).1
 omega
theorem tb_nums {l:List Le} {h:List Du} (e:tbV l h=0):l.length<=12/\h.length<=12:=by
 have t:=(tbV_iff l h).1 e
 have:=t.len
 have:=t.hlen
 omega
theorem svalid_any (S:Sh) (D:Sx) (w:World) (hs:SR w w.heap.size S D) :
  Calls Tryz.prog 139 #[sv S D] w (VlT w (shV S)):=by
 have H0:=Lh (SAt.start 72 hs)
 have HRG:=Lh (fun p W (k:SAt w p S D W)=>gvalid_any D.A S.cs.length D.c S.cs S.hd S.sz W k.sr.ls)
 have HTB:=Lh (fun p W (k:SAt w p S D W)=>lvalid_any D.A2 S.l.length D.c2 S.l D.A3 S.h.length D.c3 S.h W k.sr.el k.sr.dl)
 clear hs
 go_enter Tryz.func139,Tryz.ntmps139
 obtain ⟨t0,t1,t2,t3,t4,t5,t6,t7,tl⟩:=H0.out.s8.facts
 go_wp2_with fail
 clear t0 t1 t2 t3 t4 t5 t6 t7 tl
 obtain ⟨p,hp⟩:∃ p,p=w.heap.size:=⟨_,rfl⟩
 rw [<-hp]
 rw [<-hp] at H0
 clear hp
 generalize w.alloc (.cells #[.bool S.lv,.int .i64 S.lo,.int .i64 S.hi,.slice D.A S.cs.length D.c,.int .i64 S.hd,.int .i64 S.sz,.slice D.A2 S.l.length D.c2,.slice D.A3 S.h.length D.c3] 72)=w1 at*
 refine (HRG.out _ _ H0.out).mono ?_
 rintro e w2 ⟨rfl,hb⟩
 have H1:=Lh (H0.out.below hb)
 clear hb
 by_cases h1:rgV S.cs S.hd S.sz=0
 ·have HNU:=Lh (rg_nums h1)
  have HX1:=Lh h1
  rw [h1]
  clear h1
  obtain ⟨t0,t1,t2,t3,t4,t5,t6,t7,tl⟩:=H1.out.s8.facts
  go_wp2_with fail
  clear t0 t1 t2 t3 t4 t5 t6 t7 tl
  refine (HTB.out _ _ H1.out).mono ?_
  rintro e w3 ⟨rfl,hb⟩
  have H2:=Lh (H1.out.below hb)
  clear hb
  by_cases h2:tbV S.l S.h=0
  ·have HNT:=Lh (tb_nums h2)
   have HX2:=Lh h2
   rw [h2]
   clear h2
   have HLI:=Lh (slive_any S D w3 H2.out.sr HNU.out.2.2.1 HNU.out.2.2.2 HNT.out.1)
   have HSZ:=Lh (fun W=>ssize_any S D W HNU.out.2.2.1 (by have:=HNU.out.2.2.2;omega) (by have:=HNT.out.1;omega))
   cases hlv:S.lv with
   | true=>
    have HX:=Lh (shV_li HX1.out HX2.out hlv)
    have hsv:(Value.agg #[.bool true,.int .i64 S.lo,.int .i64 S.hi,.slice D.A S.cs.length D.c,.int .i64 S.hd,.int .i64 S.sz,.slice D.A2 S.l.length D.c2,.slice D.A3 S.h.length D.c3])=sv S D:=by show _=Value.agg _;rw [hlv]
    obtain ⟨t0,t1,t2,t3,t4,t5,t6,t7,tl⟩:=H2.out.s8.facts
    rw [hlv] at t0
    clear hlv
    go_wp2_with fail
    clear t0 t1 t2 t3 t4 t5 t6 t7 tl
    refine HLI.out.mono ?_
    rintro e w4 ⟨rfl,hb⟩
    have H3:=Lh (H2.out.below hb)
    clear hb
    go_wp2
    go_ret
    exact ⟨by rw [HX.out];rfl,H3.out.bel⟩
   | false=>
    have HX:=Lh (shV_of HX1.out HX2.out hlv)
    have hsv:(Value.agg #[.bool false,.int .i64 S.lo,.int .i64 S.hi,.slice D.A S.cs.length D.c,.int .i64 S.hd,.int .i64 S.sz,.slice D.A2 S.l.length D.c2,.slice D.A3 S.h.length D.c3])=sv S D:=by show _=Value.agg _;rw [hlv]
    obtain ⟨t0,t1,t2,t3,t4,t5,t6,t7,tl⟩:=H2.out.s8.facts
    rw [hlv] at t0
    clear hlv
    by_cases hlo:S.lo=0
    ·have blo:(S.lo != 0)=false:=by simp [hlo]
     have HLO:=Lh hlo
     clear hlo
     by_cases hhi:S.hi=0
     ·have bhi:(S.hi != 0)=false:=by simp [hhi]
      have HHI:=Lh hhi
      clear hhi
      have HSZ':=Lh (fun W=>HSZ.out W)
      by_cases hz:0<S.sz+S.l.length
      ·go_wp2_with fail
       refine (HSZ'.out _).mono ?_
       rintro e w4 ⟨rfl,hb⟩
       have H3:=Lh (H2.out.below hb)
       clear hb
       go_wp2
       go_ret
       exact ⟨by rw [HX.out,if_pos (.inr (.inr hz))];rfl,H3.out.bel⟩
      ·go_wp2_with fail
       refine (HSZ'.out _).mono ?_
       rintro e w4 ⟨rfl,hb⟩
       have H3:=Lh (H2.out.below hb)
       clear hb
       go_wp2
       go_ret
       exact ⟨by rw [HX.out,if_neg (by have:=HLO.out;have:=HHI.out;omega)];rfl,H3.out.bel⟩
     ·have bhi:(S.hi != 0)=true:=by simp [hhi]
      have HHI:=Lh hhi
      clear hhi
      go_wp2
      go_ret
      exact ⟨by rw [HX.out,if_pos (.inr (.inl HHI.out))];rfl,H2.out.bel⟩
    ·have blo:(S.lo != 0)=true:=by simp [hlo]
     have HLO:=Lh hlo
     clear hlo
     go_wp2
     go_ret
     exact ⟨by rw [HX.out,if_pos (.inl HLO.out)];rfl,H2.out.bel⟩
  ·have HX:=Lh (shV_tb HX1.out h2)
   have hne:(tbV S.l S.h != 0)=true:=bne_iff_ne.2 h2
   clear h2
   generalize tbV S.l S.h=x at*
   go_wp2
   go_ret
   exact ⟨by rw [HX.out];rfl,H2.out.bel⟩
 ·have HX:=Lh (shV_rg h1)
  have hne:(rgV S.cs S.hd S.sz != 0)=true:=bne_iff_ne.2 h1
  clear h1
  generalize rgV S.cs S.hd S.sz=x at*
  go_wp2
  go_ret
  exact ⟨by rw [HX.out];rfl,H1.out.bel⟩
structure Rn where
 n:Int
 lo:Int
 hi:Int
def Rn.l (x:Rn):List Value:=[.int .i64 x.n,.int .i64 x.lo,.int .i64 x.hi]
def Rn.ok (x:Rn):Bool:=wi x.n x.lo x.hi
def rcs (R:List Rn):List Value:=R.flatMap Rn.l
theorem rcs_cons (x:Rn) (R:List Rn):rcs (x::R)=x.l++rcs R:=rfl
theorem rcs_drop (R:List Rn) (k:Nat):(rcs R).drop (k*3)=rcs (R.drop k):=by
 induction k generalizing R with
 | zero=>simp
 | succ k ih=>
  cases R with
  | nil=>simp [rcs]
  | cons x R=>
   rw [rcs_cons,List.drop_succ_cons,<-ih,show (k+1)*3=x.l.length+k*3 by simp [Rn.l];omega,List.drop_append,List.drop_eq_nil_of_le (by omega)]
   simp
theorem rcs_at (R:List Rn) (k j:Nat) (hk:k<R.length) (hj:j<3):(rcs R)[k*3+j]? = R[k].l[j]?:=by
 have h:=rcs_drop R k
 have e:(rcs R)[k*3+j]? = ((rcs R).drop (k*3))[j]?:=by rw [List.getElem?_drop]
 rw [e,h,List.drop_eq_getElem_cons hk,rcs_cons,List.getElem?_append_left (by simp [Rn.l];exact hj)]
def Nl (W:World) (B:Nat) (v:Value) (R:List Rn):Prop:=∃ A c,v=.slice A R.length c/\R.length<=c/\c<=maxLen/\Rd W B 3 A R.length (rcs R)
section
variable {W W' : World} {B:Nat} {v:Value} {R:List Rn} {A:Option Addr} {n c:Nat}
theorem Nl.below (h:Nl W B v R) (hb:Below B W W'):Nl W' B v R:=by
 obtain ⟨A,c,e,h1,h2,h3⟩:=h;exact ⟨A,c,e,h1,h2,h3.below hb⟩
theorem Nl.len (h:Nl W B (.slice A n c) R):n=R.length/\n<=c/\c<=maxLen:=by
 obtain ⟨A',c',e,hl,hm,h⟩:=h
 injection e with e1 e2 e3
 subst e2;subst e3
 exact ⟨rfl,hl,hm⟩
theorem Nl.at_ {k:Nat} (h:Nl W B (.slice A n c) R) (hk:k<R.length):∃ b o,A=some ⟨b,o,none⟩/\b<B/\W.cell? ⟨b,o+k*3,none⟩=some (.int .i64 R[k].n)/\W.cell? ⟨b,o+k*3+1,none⟩=some (.int .i64 R[k].lo)/\W.cell? ⟨b,o+k*3+2,none⟩=some (.int .i64 R[k].hi):=by
 obtain ⟨A',c',e,hl,hm,hr⟩:=h
 injection e with e1 e2 e3
 subst e1
 obtain ⟨b,o,e,hb,hc⟩:=hr.2 (by omega)
 have g:∀ j u,j<3->R[k].l[j]? = some u->W.cell? ⟨b,o+k*3+j,none⟩=some u:=fun j u hj hu=>by
  rw [Nat.add_assoc];exact hc _ u (by rw [rcs_at R k j hk hj];exact hu)
 exact ⟨b,o,e,hb,g 0 _ (by omega) rfl,g 1 _ (by omega) rfl,g 2 _ (by omega) rfl⟩
end
theorem sexam_any (S:Sh) (D:Sx) (A:Option Addr) (n c:Nat) (R:List Rn) (w:World) (hs:SR w w.heap.size S D) (hn:Nl w w.heap.size (.slice A n c) R) :
  Calls Tryz.prog 143 #[sv S D,.slice A n c] w (VlT w (exS S (R.all Rn.ok))):=by
 obtain ⟨rfl,hm1,hm2⟩:=hn.len
 have hL:R.length<=9223372036854775807:=by unfold maxLen at hm2;omega
 have H0:=Lh (SAt.start 72 hs)
 have HN:=Lh hn
 have HV:=Lh (fun p W (k:SAt w p S D W)=>svalid_any S D W k.sr)
 clear hs hn hm1 hm2
 go_enter Tryz.func143,Tryz.ntmps143
 obtain ⟨t0,t1,t2,t3,t4,t5,t6,t7,tl⟩:=H0.out.s8.facts
 go_wp2_with fail
 clear t0 t1 t2 t3 t4 t5 t6 t7 tl
 obtain ⟨p,hp⟩:∃ p,p=w.heap.size:=⟨_,rfl⟩
 rw [<-hp]
 rw [<-hp] at H0
 clear hp
 generalize w.alloc (.cells #[.bool S.lv,.int .i64 S.lo,.int .i64 S.hi,.slice D.A S.cs.length D.c,.int .i64 S.hd,.int .i64 S.sz,.slice D.A2 S.l.length D.c2,.slice D.A3 S.h.length D.c3] 72)=w1 at*
 refine (HV.out _ _ H0.out).mono ?_
 rintro e w2 ⟨rfl,hb⟩
 have H1:=Lh (H0.out.below hb)
 clear hb
 by_cases h1:shV S=0
 ·have HX1:=Lh h1
  rw [h1]
  clear h1
  cases hlv:S.lv with
  | false=>
   have HX:=Lh (exS_off (R.all Rn.ok) HX1.out hlv)
   obtain ⟨t0,t1,t2,t3,t4,t5,t6,t7,tl⟩:=H1.out.s8.facts
   rw [hlv] at t0
   clear hlv t1 t2 t3 t4 t5 t6 t7
   go_wp2
   go_ret
   exact ⟨by rw [HX.out];rfl,H1.out.bel⟩
  | true=>
   have HXN:=Lh (fun hb=>exS_num (S:=S) (b:=R.all Rn.ok) HX1.out hlv hb)
   have HXK:=Lh (fun hb=>exS_ok (S:=S) (b:=R.all Rn.ok) HX1.out hlv hb)
   obtain ⟨t0,t1,t2,t3,t4,t5,t6,t7,tl⟩:=H1.out.s8.facts
   rw [hlv] at t0
   clear hlv t1 t2 t3 t4 t5 t6 t7
   go_wp2
   clear t0 tl
   have HB1:=Lh H1.out.bel
   go_loopw [18] (fun i wr=>∃ k:Nat,k<=R.length/\i=.int .i64 k/\Below w.heap.size w wr/\∀ j (hj:j<R.length),j<k->R[j].ok=true) (fun i _=>R.length - (intOf i).toNat)
   case atStart=>exact ⟨0,Nat.zero_le _,rfl,HB1.out,fun j _ h=>absurd h (by omega)⟩
   case round=>
    obtain ⟨k,hk,rfl,hb,hno⟩:=hrel
    have HNO:=Lh hno
    have HB:=Lh hb
    have HNK:=Lh (HN.out.below hb)
    clear hb hno
    by_cases hlt:k<R.length
    ·obtain ⟨b,o,rfl,hb,c0,c1,c2⟩:=HNK.out.at_ hlt
     have HBA:=Lh (HB.out.alloc HB.out.size (.cells #[.int .i64 R[k].n,.int .i64 R[k].lo,.int .i64 R[k].hi] 209))
     cases he:R[k].ok with
     | true=>
      have HNN:=Lh (show ∀ j (hj:j<R.length),j<k+1->R[j].ok=true from fun j hj h=>by
       by_cases e:j=k
       ·subst e;exact he
       ·exact HNO.out j hj (by omega))
      have HC:=Lh (fun W=>swithin_any R[k].n R[k].lo R[k].hi W)
      rw [show wi R[k].n R[k].lo R[k].hi=true from he] at HC
      clear he
      generalize R[k]=X at*
      go_wp2_with fail
      refine (HC.out _).mono ?_
      rintro e w3 ⟨rfl,rfl⟩
      go_wp2
      go_roundw
      case rel=>exact ⟨k+1,by omega,by go_num,HBA.out,HNN.out⟩
      case measure=>simp [intOf];omega
     | false=>
      have HX:=Lh (HXN.out (by
       cases h:R.all Rn.ok with
       | false=>rfl
       | true=>rw [List.all_eq_true.1 h _ (List.getElem_mem hlt)] at he;cases he))
      have HC:=Lh (fun W=>swithin_any R[k].n R[k].lo R[k].hi W)
      rw [show wi R[k].n R[k].lo R[k].hi=false from he] at HC
      clear he
      generalize R[k]=X at*
      go_wp2_with fail
      refine (HC.out _).mono ?_
      rintro e w3 ⟨rfl,rfl⟩
      go_wp2
      go_ret
      exact ⟨by rw [HX.out];rfl,HBA.out⟩
    ·have HX:=Lh (HXK.out (List.all_eq_true.2 fun x hx=>by
      obtain ⟨j,hj,rfl⟩:=List.mem_iff_getElem.1 hx
      exact HNO.out j hj (by omega)))
     go_wp2
     go_ret
     exact ⟨by rw [HX.out];rfl,HB.out⟩
 ·have HX:=Lh (exS_bad (R.all Rn.ok) h1)
  have hne:(shV S != 0)=true:=bne_iff_ne.2 h1
  clear h1
  generalize shV S=x at*
  go_wp2
  go_ret
  exact ⟨by rw [HX.out];rfl,H1.out.bel⟩
theorem bal {a w:World} (h:Below a.heap.size a w) (o:Obj):Below a.heap.size a (w.alloc o):=h.alloc h.size o
theorem bst {a w:World} (h:Below a.heap.size a w) {p:Addr} (hp:a.heap.size<=p.block) (v:Value):Below a.heap.size a (w.setCell p v):=h.setCell hp v
theorem bdr {a w:World} (h:Below a.heap.size a w):Below a.heap.size a w.drew:=h.drew
theorem btr {a b c:World} (h:Below a.heap.size a b) (k:Below b.heap.size b c):Below a.heap.size a c:=h.trans (k.mono h.size)
section
variable {wr w4:World} {A4:Option Addr} {k c4 lo x m:Nat} {hd z:Int} {X:Msg} {l:List Msg}
end
structure RvAt (w:World) (p:Nat) (A:Option Addr) (k c hd:Nat) (L:List Msg) (AL:Option Addr) (cL:Nat) (W:World):Prop where
 rb:RB W p A k c hd L.length
 ls:Ls W W.heap.size (.slice A k c) (fil k hd L)
 la:Ls W W.heap.size (.slice AL L.length cL) L
 bel:Below w.heap.size w W
 old:w.heap.size<=p
def RMQ (w0 w:World) (cs:List Msg) (hd sz:Int) (X:Msg) (x:Int) (e:Ending) (w' : World):Prop:=∃ A c,e=.returned (.tuple #[.agg #[.slice A cs.length c,.int .i64 hd,.int .i64 sz],X.v,.int .i64 x])/\Nw w.heap.size A/\Ls w' w'.heap.size (.slice A cs.length c) cs/\Below w.heap.size w w'/\Below w0.heap.size w0 w'
def LsQ (w0:World) (l:List Msg) (w:World) (e:Ending) (w' : World):Prop:=∃ A c,e=.returned (.slice A l.length c)/\Nw w.heap.size A/\Ls w' w'.heap.size (.slice A l.length c) l/\Below w.heap.size w w'/\Below w0.heap.size w0 w'
theorem ex_nums {S:Sh} {b:Bool} (h:exS S b=0):1<=S.cs.length/\S.cs.length<=12/\0<=S.sz/\S.sz<=12/\S.l.length<=12/\S.h.length<=12:=by
 obtain ⟨-,V,k,rfl⟩:=vs_ex h
 have h1:=k.room
 have h2:=k.tb.len
 have h3:=k.tb.hlen
 have h4:=k.n1
 have h5:=k.n2
 have h6:V.sh.cs.length=V.n:=fil_len _ _ _
 have h7:V.sh.sz=(V.L.length:Int):=rfl
 have h8:V.sh.l=V.l:=rfl
 have h9:V.sh.h=V.h:=rfl
 rw [h6,h7,h8,h9]
 omega
noncomputable def neE (k lo hi:Int):Int:=if nwE k≠0 then nwE k else if spB lo hi=true then 0 else 1
noncomputable def neS (k lo hi:Int):Sh:=if neE k lo hi=0 then ⟨true,lo,hi,nwC k,0,0,[],[]⟩ else zS
abbrev z8 (W:World) (r:Nat):World:=((((((((W.setCell ⟨r,0,none⟩ (.bool false)).setCell ⟨r,1,none⟩ (.int .i64 0)).setCell ⟨r,2,none⟩ (.int .i64 0)).setCell ⟨r,3,none⟩ (.slice none 0 0)).setCell ⟨r,4,none⟩ (.int .i64 0)).setCell ⟨r,5,none⟩ (.int .i64 0)).setCell ⟨r,6,none⟩ (.slice none 0 0)).setCell ⟨r,7,none⟩ (.slice none 0 0))
theorem se_zeroA {w w' : World} {x:Int} {r:Nat} (hr:w.heap.size<=r) (hb:Below w.heap.size w w') (o:Obj):SE w zS x (.returned (.tuple #[.agg #[.bool false,.int .i64 0,.int .i64 0,.slice none 0 0,.int .i64 0,.int .i64 0,.slice none 0 0,.slice none 0 0],.int .i64 x])) ((z8 w' r).alloc o):=
 ⟨zX,rfl,zX_nw _,SR.zero,bal (set8s_below hr hb zS zX) o⟩
theorem snew_any (k lo hi:Int) (w:World) :
  Calls Tryz.prog 45 #[.int .i64 k,.int .i64 lo,.int .i64 hi] w (SE w (neS k lo hi) (neE k lo hi)):=by
 have R0:=Lh (SB8.zero w 72)
 have B0:=Lh ((Below.refl w.heap.size w).alloc (nLR _) (.cells #[.bool false,.int .i64 0,.int .i64 0,.slice none 0 0,.int .i64 0,.int .i64 0,.slice none 0 0,.slice none 0 0] 72))
 have HN:=Lh (fun W=>gnew_any k W)
 have HSP:=Lh (fun W=>sspan_any lo hi W)
 go_enter Tryz.func45,Tryz.ntmps45
 go_wp2_with fail
 obtain ⟨r,hr⟩:∃ r,r=w.heap.size:=⟨_,rfl⟩
 have HRW:=Lh (show w.heap.size<=r by omega)
 rw [<-hr]
 rw [<-hr] at R0
 clear hr
 generalize w.alloc (.cells #[.bool false,.int .i64 0,.int .i64 0,.slice none 0 0,.int .i64 0,.int .i64 0,.slice none 0 0,.slice none 0 0] 72)=w1 at*
 refine (HN.out _).mono ?_
 rintro e w2 ⟨A,c,rfl,hnw,hl,hb⟩
 have B2:=Lh (btr B0.out hb)
 have R2:=Lh (R0.out.up hb)
 have L2:=Lh hl
 have N2:=Lh (nw_low hnw (show r+1<=_ from R0.out.lt))
 have HRL:=Lh (show r<w2.heap.size from Nat.lt_of_lt_of_le R0.out.lt hb.size)
 clear hb hl hnw
 by_cases h1:nwE k=0
 ·have HX1:=Lh h1
  rw [h1]
  clear h1
  have hrl:=HRL.out
  go_wp2_with fail
  refine (HSP.out _).mono ?_
  rintro e w3 ⟨rfl,rfl⟩
  obtain ⟨r0,r1,r2,r3,r4,r5,r6,r7,rl⟩:=R2.out.facts
  obtain ⟨f0,f1,f2,f3,f4,f5,f6,f7⟩:=R2.out.free
  cases h2:spB lo hi with
  | true=>
   have hE:neE k lo hi=0:=by unfold neE;rw [if_neg (fun g=>g HX1.out),if_pos h2]
   have hS:neS k lo hi=⟨true,lo,hi,nwC k,0,0,[],[]⟩:=if_pos hE
   have HF:=Lh (show SE w (neS k lo hi) (neE k lo hi) (.returned (.tuple #[.agg #[.bool true,.int .i64 lo,.int .i64 hi,.slice A (nwC k).length c,.int .i64 0,.int .i64 0,.slice none 0 0,.slice none 0 0],.int .i64 0])) (((((((((w2.setCell ⟨r,0,none⟩ (.bool true)).setCell ⟨r,1,none⟩ (.int .i64 lo)).setCell ⟨r,2,none⟩ (.int .i64 hi)).setCell ⟨r,3,none⟩ (.slice A (nwC k).length c)).setCell ⟨r,4,none⟩ (.int .i64 0)).setCell ⟨r,5,none⟩ (.int .i64 0)).setCell ⟨r,6,none⟩ (.slice none 0 0)).setCell ⟨r,7,none⟩ (.slice none 0 0)).alloc (.cells #[.slice A (nwC k).length c,.int .i64 0,.int .i64 0] 66)) from by
    rw [hE,hS]
    exact ⟨⟨A,c,none,0,none,0⟩,rfl,⟨nw_low N2.out (by have:=HRW.out;omega),nw_none,nw_none⟩,(SR.sets (S:=⟨true,lo,hi,nwC k,0,0,[],[]⟩) (D:=⟨A,c,none,0,none,0⟩) ⟨offb_nw N2.out (Nat.lt_succ_self r),offb_none,offb_none⟩ (Sh.l8 ⟨true,lo,hi,nwC k,0,0,[],[]⟩ ⟨A,c,none,0,none,0⟩) 0 w2 ⟨L2.out,El.nil,Dl.nil⟩).up ((Below.refl _ _).alloc (nLR _) _),bal (set8s_below HRW.out B2.out ⟨true,lo,hi,nwC k,0,0,[],[]⟩ ⟨A,c,none,0,none,0⟩) _⟩)
   clear hE hS
   go_wp2
   exact bodyPost_ret (v:=.tuple #[.agg #[.bool true,.int .i64 lo,.int .i64 hi,.slice A (nwC k).length c,.int .i64 0,.int .i64 0,.slice none 0 0,.slice none 0 0],.int .i64 0]) (by simp only [results,Tryz.results45];go_simp <;> rfl) rfl HF.out
  | false=>
   have hE:neE k lo hi=1:=by unfold neE;rw [if_neg (fun g=>g HX1.out),if_neg (by simp [h2])]
   have hS:neS k lo hi=zS:=if_neg (by rw [hE];decide)
   have HF:=Lh (show SE w (neS k lo hi) (neE k lo hi) (.returned (.tuple #[.agg #[.bool false,.int .i64 0,.int .i64 0,.slice none 0 0,.int .i64 0,.int .i64 0,.slice none 0 0,.slice none 0 0],.int .i64 1])) ((z8 w2 r).alloc (.cells #[.slice A (nwC k).length c,.int .i64 0,.int .i64 0] 66)) from by
    rw [hE,hS]
    exact se_zeroA HRW.out B2.out _)
   clear hE hS
   go_wp2
   exact bodyPost_ret (v:=.tuple #[.agg #[.bool false,.int .i64 0,.int .i64 0,.slice none 0 0,.int .i64 0,.int .i64 0,.slice none 0 0,.slice none 0 0],.int .i64 1]) (by simp only [results,Tryz.results45];go_simp <;> rfl) rfl HF.out
 ·have hE:neE k lo hi=nwE k:=if_pos h1
  have hS:neS k lo hi=zS:=if_neg (by rw [hE];exact h1)
  have hne:(nwE k != 0)=true:=bne_iff_ne.2 h1
  obtain ⟨r0,r1,r2,r3,r4,r5,r6,r7,rl⟩:=R2.out.facts
  obtain ⟨f0,f1,f2,f3,f4,f5,f6,f7⟩:=R2.out.free
  have HF:=Lh (show SE w (neS k lo hi) (neE k lo hi) (.returned (.tuple #[.agg #[.bool false,.int .i64 0,.int .i64 0,.slice none 0 0,.int .i64 0,.int .i64 0,.slice none 0 0,.slice none 0 0],.int .i64 (nwE k)])) ((z8 w2 r).alloc (.cells #[.slice A (nwC k).length c,.int .i64 0,.int .i64 0] 66)) from by
   rw [hE,hS]
   exact se_zeroA HRW.out B2.out _)
  clear hE hS h1
  have hrl:=HRL.out
  generalize nwE k=x at*
  go_wp2
  exact bodyPost_ret (v:=.tuple #[.agg #[.bool false,.int .i64 0,.int .i64 0,.slice none 0 0,.int .i64 0,.int .i64 0,.slice none 0 0,.slice none 0 0],.int .i64 x]) (by simp only [results,Tryz.results45];go_simp <;> rfl) rfl HF.out
structure Bs2 (l:List Le) (x:Int) (lo hi:Nat):Prop where
 lo_:∀ j (hj:j<l.length),j<lo->l[j].id<x
 hi_:∀ j (hj:j<l.length),hi<=j->x<=l[j].id
end Go.Proofs.YtkecnihgjepfeaaGreat
