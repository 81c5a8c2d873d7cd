/- What is proved here: lease.Lapsed by a contract that says that its list is new; shard.Expire of a valid live shard, by a contract; in the statements of layer 7, awake is true; what shardqueuelaw07.ShardLeases reads; Odd of the statements' base returns some message with a short body. -/
import Derived.Test.YtncgbldcjfbknaaGreatJ32
namespace Go.Proofs.YtncgbldcjfbknaaGreat
open Go.RowKit
set_option linter.unusedVariables false
def NrN (W0:World) (zs:List Int) (e:Ending) (w' : World):Prop:=∃ A c,e=.returned (.slice A zs.length c)∧Nr w' w'.heap.size (.slice A zs.length c) zs∧Below W0.heap.size W0 w'∧Nw W0.heap.size A
set_option maxHeartbeats 8000000 in
set_option maxRecDepth 20000 in
theorem delint_nw (p q:Nat) (A:Option Addr) (c:Nat) (l:List Le) (A2:Option Addr) (c2:Nat) (h:List Du) (ep:Int) (w W0 W:World) (k:LpW w p q A c l A2 c2 h ep W0) (t:TbOk l h) (hb0:Below W0.heap.size W0 W) (v:Value) (zs:List Int) (ho:W.ownsRow W0.heap.size 3 1 v zs.length (zs.map i64v)) (hf:∀ x∈zs,0≤kFi Le.id l x) (h100:zs.length≤1000) :
  Calls Tryz.prog 108 #[v,.func (.func 110) #[] #[.pointer (some ⟨p,0,none⟩),.pointer (some ⟨q,0,none⟩)]] W (NrN W0 (kpI (pgF l h ep) zs)):=by
 obtain ⟨B,d,rfl⟩:=own_form ho
 have HK:=Lh k
 have HO:=Lh ho
 have HF:=Lh hf
 have HB:=Lh hb0
 have HL:=Lh (fun id hf W (k:LpW w p q A c l A2 c2 h ep W)=>lapsed1_any p q A c l A2 c2 h ep id w W k t hf)
 have HIX:=Lh (ixint_any p q A c l A2 c2 h ep w W (k.below hb0) t B zs.length d zs (Nr.of_own ho) hf h100)
 clear k ho hf hb0 t
 generalize pgF l h ep=P at*
 rcases fxI_cases P zs with ⟨e,hn⟩ | ⟨i0,hi0,e,h1,hn⟩
 ·rw [e] at HIX
  have HKA:=Lh (kpI_all hn)
  have HR:=Lh (fun W' (hb:Below W.heap.size W W')=>show NrN W0 (kpI P zs) (.returned (.slice B zs.length d)) W' from by
   rw [HKA.out];exact ⟨_,_,rfl,(Nr.of_own HO.out).up hb,HB.out.trans (hb.mono HB.out.size),nwv_of (nwv_own HO.out (Nat.le_refl _))⟩)
  clear e hn HKA
  go_enter Tryz.func108,Tryz.ntmps108
  go_wp2_with fail
  refine HIX.out.mono ?_
  rintro e w1 ⟨rfl,hb1⟩
  have HF1:=Lh (HR.out _ hb1)
  clear hb1
  go_wp2
  go_ret
  exact HF1.out
 ·rw [e] at HIX
  obtain ⟨g,rfl⟩:∃ g,B=some ⟨g,0,none⟩:=by
   rcases HO.out.2 with ⟨_,e0⟩ | ⟨g,cap,cur,hv,_⟩
   ·omega
   ·injection hv with e1 _ e3
    exact ⟨g,e1⟩
  have hdl:=(Nr.of_own HO.out).len
  have hdm:d≤9223372036854775807:=by have:=hdl.2.2;unfold maxLen at this;omega
  have hld:zs.length≤d:=hdl.2.1
  have HI0:=Lh (DfI.start hi0 h1 hn)
  obtain ⟨n,hn0⟩:∃ n,n=zs.length:=⟨_,rfl⟩
  have HN:=Lh hn0
  rw [←hn0] at HIX hld h100 ⊢
  have HO:=Lh (show W.ownsRow W0.heap.size 3 1 (.slice (some ⟨g,0,none⟩) n d) n (zs.map i64v) by rw [hn0];exact HO.out)
  have hi0n:i0<n:=by omega
  have hi1:((i0:Int) == -1)=false:=by simp
  clear e h1 hn hdl hn0 hi0
  go_enter Tryz.func108,Tryz.ntmps108
  go_wp2_with fail
  refine HIX.out.mono ?_
  rintro e w1 ⟨rfl,hb1⟩
  have HO1:=Lh (own_upL HO.out hb1)
  have HB1:=Lh (HB.out.trans (hb1.mono HB.out.size))
  clear hb1
  go_wp2
  go_loopw [5,6] (fun s5 s6 wr=>∃ (i j:Nat) (ys:List Int),s5=.int .i64 i∧s6=.int .i64 j∧i<j∧j≤n∧Hid (DfI P zs i j ys)∧Hid (wr.ownsRow W0.heap.size 3 1 (.slice (some ⟨g,0,none⟩) n d) n (ys.map i64v))∧Hid (Below W0.heap.size W0 wr)) (fun _ s6 _=>n - (intOf s6).toNat)
  case atStart=>exact ⟨i0,i0+1,zs,rfl,by go_num,by omega,by omega,HI0,HO1,HB1⟩
  case round=>
   clear HI0 HO1 HB1
   obtain ⟨i,j,ys,rfl,rfl,hij,hjn,HI,HOJ,HBJ⟩:=hrel
   by_cases hlt:j<n
   ·have hjz:j<zs.length:=by rw [←HN.out];exact hlt
    have hjy:j<ys.length:=by rw [HI.out.len];exact hjz
    have c0:=nr_own HOJ.out hjy
    rw [HI.out.at_ hjz] at c0
    obtain ⟨x,hx⟩:∃ x,zs[j]=x:=⟨_,rfl⟩
    have HM:=Lh (HF.out _ (List.getElem_mem hjz))
    rw [hx] at c0 HM
    have HX:=Lh hx
    have HC:=Lh (HL.out x HM.out _ (HK.out.below HBJ.out))
    clear hx HM hjy
    cases hp:P x with
    | true=>
     have HI2:=Lh (HI.out.skip hjz (by rw [HX.out];exact hp))
     rw [hp] at HC
     clear hp HX hjz
     go_wp2_with fail
     refine HC.out.mono ?_
     rintro e w2 ⟨rfl,hb2⟩
     have HO2:=Lh (own_upL HOJ.out hb2)
     have HB2:=Lh (HBJ.out.trans (hb2.mono HBJ.out.size))
     clear hb2 c0
     go_wp2
     go_roundw
     case rel=>exact ⟨i,j+1,ys,rfl,by go_num,by omega,by omega,HI2,HO2,HB2⟩
     case measure=>simp [intOf];omega
    | false=>
     have HI2:=Lh (HI.out.keep hjz (by rw [HX.out];exact hp))
     rw [HX.out] at HI2
     rw [hp] at HC
     have hin:(i:Int)<(n:Int):=by omega
     have hiy:i<ys.length:=by rw [HI.out.len];omega
     clear hp HX hjz
     go_wp2_with fail
     refine HC.out.mono ?_
     rintro e w2 ⟨rfl,hb2⟩
     have HO2:=Lh (own_upL HOJ.out hb2)
     have HB2:=Lh (HBJ.out.trans (hb2.mono HBJ.out.size))
     have d0:=nr_own HO2.out hiy
     have f0:=HO2.out.frozenAt i
     have HO3:=Lh (show (w2.setCell ⟨g,i,none⟩ (.int .i64 x)).ownsRow W0.heap.size 3 1 (.slice (some ⟨g,0,none⟩) n d) n ((ys.set i x).map i64v) by
      have:=(HO2.out.stored i (.int .i64 x)).1
      rw [List.map_set]
      exact this)
     have HB3:=Lh (HB2.out.setCell (p:=⟨g,i,none⟩) (HO2.out.lt g rfl).1 (.int .i64 x))
     clear hb2 c0
     go_wp2
     go_roundw
     case rel=>exact ⟨i+1,j+1,ys.set i x,by go_num,by go_num,by omega,by omega,HI2,HO3,HB3⟩
     case measure=>simp [intOf];omega
   ·obtain ⟨hk,hil,hiz⟩:=HI.out.done (show ¬j<zs.length by rw [←HN.out];exact hlt)
    have hin:i<n:=by omega
    obtain ⟨Kp,hKp⟩:∃ Kp,Kp=kpI P zs:=⟨_,rfl⟩
    have hcut:∀ W,(Instr.slice 22 (.slice (some ⟨g,0,none⟩) n d) (some (.int .i64 (i:Int))) none none).run Tryz.prog W=.ok (.slice (some ⟨g,i,none⟩) (n - i) (d - i)) W:=fun W=>by
     obtain ⟨A',hA',h⟩:=run_icut (some ⟨g,0,none⟩) n d .i64 i (by omega)
     rw [hA',if_neg (by omega),Option.map_some,add_mk,Nat.zero_add,Nat.mul_one] at h
     exact h W
    have hcut2:=run_iupto (some ⟨g,0,none⟩) n d .i64 i (by omega)
    have hclr:∀ ty,(Builtin.clear_ #[22] ty #[.slice (some ⟨g,i,none⟩) (n - i) (d - i)]).run Tryz.prog wr=.ok (.tuple #[]) (wr.setCells g i (List.replicate (n - i) (.int .i64 0))):=fun ty=>
     Lib.run_clear_slice wr 22 3 ty (.int .i64 0) Tryz.underlying22 (fun w=>by rw [Tryz.zeroValue3]) rfl rfl g i (n - i) (d - i) (Nat.sub_pos_of_lt hin) (fun m hm=>by rw [nr_own HOJ.out (j:=i+m) (by rw [HI.out.len,←HN.out];omega)];rfl) (fun m hm=>HOJ.out.frozenAt _)
    have HFI:=Lh (show NrN W0 (kpI P zs) (.returned (.slice (some ⟨g,0,none⟩) i d)) (wr.setCells g i (List.replicate (n - i) (.int .i64 0))) from by
     have h1:=clear_nr HOJ.out (by omega:i≤n) hk hil (List.replicate (n - i) (.int .i64 0))
     refine ⟨some ⟨g,0,none⟩,d,?_,?_,sets_below (HOJ.out.lt g rfl).1 _ _ _ HBJ.out,nw_some (HOJ.out.lt g rfl).1⟩
     ·rw [←hil]
     ·rw [←hil];exact h1)
    generalize wr.setCells g i (List.replicate (n - i) (.int .i64 0))=w5 at*
    clear hk hil hiz hKp
    go_wp2
    go_ret
    exact HFI.out
set_option maxHeartbeats 4000000 in
set_option maxRecDepth 20000 in
theorem llapsed_nw (A:Option Addr) (n c:Nat) (l:List Le) (A2:Option Addr) (n2 c2:Nat) (h:List Du) (now ep:Int) (w:World) (hv:El w w.heap.size (.slice A n c) l) (hd:Dl w w.heap.size (.slice A2 n2 c2) h) :
  Calls Tryz.prog 58 #[tv A n c A2 n2 c2,.int .i64 now,.int .i64 ep] w (NrN w (laV l h now ep)):=by
 obtain ⟨rfl,hm1,hm2⟩:=hv.len
 obtain ⟨rfl,hm3,hm4⟩:=hd.len
 have H0:=Lh (LpW.start hv hd ep)
 have HV:=Lh (fun p W (k:VaA w p A c l A2 c2 h W)=>lvalid_any A l.length c l A2 h.length c2 h W k.el k.dl)
 have HU:=Lh (fun p W (k:VaA w p A c l A2 c2 h W)=>duntil_own A2 h.length c2 h now W k.dl)
 clear hv hd hm1 hm2 hm3 hm4
 have hmf:∀ (fn:Fn) (first cap:Array Value) (w:World),(Instr.makeFunc fn first cap).run Tryz.prog w=.ok (.func fn first cap) w:=fun _ _ _ _=>rfl
 by_cases h0:tbV l h=0
 ·have t:=(tbV_iff l h).1 h0
  have HD:=Lh (fun p q W0 W v (k:LpW w p q A c l A2 c2 h ep W0) hb ho=>delint_nw p q A c l A2 c2 h ep w W0 W k t hb v (unR h now) ho (un_in t now).1 (by have:=(un_in t now).2;omega))
  rw [h0] at HV
  rw [laV_kp t]
  generalize kpI (pgF l h ep) (unR h now)=K at*
  generalize unR h now=U at*
  clear h0 t
  go_enter Tryz.func58,Tryz.ntmps58
  obtain ⟨t0,t1,tl⟩:=H0.out.va.tb
  go_wp2_with fail
  obtain ⟨p,hp⟩:∃ p,p=w.heap.size:=⟨_,rfl⟩
  obtain ⟨q,hq⟩:∃ q,q=w.heap.size+1:=⟨_,rfl⟩
  rw [←hq,←hp] at H0 ⊢
  clear t0 t1 tl hp hq
  generalize ((w.alloc (.cells #[.slice A l.length c,.slice A2 h.length c2] 31)).alloc (.cells #[.int .i64 ep] 3))=w1 at*
  refine (HV.out _ _ H0.out.va).mono ?_
  rintro e w2 ⟨rfl,hb⟩
  have H1:=Lh (H0.out.below hb)
  obtain ⟨t0,t1,tl⟩:=H1.out.va.tb
  clear hb
  go_wp2_with fail
  clear t0 t1 tl
  refine (HU.out _ _ H1.out.va).mono ?_
  rintro e w3 ⟨v,rfl,ho,hb⟩
  have HC:=Lh (HD.out _ _ _ _ _ H1.out hb ho)
  clear hb ho
  go_wp2_with fail
  refine HC.out.mono ?_
  rintro e w4 ⟨A4,c4,rfl,hn,hb,hnw⟩
  have HF:=Lh (show NrN w K (.returned (.slice A4 K.length c4)) w4 from ⟨A4,c4,rfl,hn,H1.out.va.bel.trans (hb.mono H1.out.va.bel.size),nw_low hnw H1.out.va.bel.size⟩)
  clear hn hb hnw
  go_wp2
  go_ret
  exact HF.out
 ·have HL:=Lh (show laV l h now ep=[] from if_neg h0)
  have hne:(tbV l h != 0)=true:=bne_iff_ne.2 h0
  rw [HL.out]
  generalize tbV l h=x at*
  clear h0 HL
  go_enter Tryz.func58,Tryz.ntmps58
  obtain ⟨t0,t1,tl⟩:=H0.out.va.tb
  go_wp2_with fail
  obtain ⟨p,hp⟩:∃ p,p=w.heap.size:=⟨_,rfl⟩
  obtain ⟨q,hq⟩:∃ q,q=w.heap.size+1:=⟨_,rfl⟩
  rw [←hq,←hp] at H0 ⊢
  clear t0 t1 tl hp hq
  generalize ((w.alloc (.cells #[.slice A l.length c,.slice A2 h.length c2] 31)).alloc (.cells #[.int .i64 ep] 3))=w1 at*
  refine (HV.out _ _ H0.out.va).mono ?_
  rintro e w2 ⟨rfl,hb⟩
  have HB1:=Lh (H0.out.below hb).va.bel
  clear hb
  go_wp2
  go_ret
  exact ⟨none,0,rfl,Nr.nil,HB1.out,nw_none⟩
def xpB (now ep lim:Int):Bool:=wi now 0 1073741824&&(wi ep 0 65536&&wi lim 1 8)
def SIe (w:World) (S:Sh) (l:List Int) (x:Int) (e:Ending) (w' : World):Prop:=∃ D A c,e=.returned (.tuple #[sv S D,.slice A l.length c,.int .i64 x])∧D.nw w.heap.size∧SR w' w'.heap.size S D∧Nr w' w'.heap.size (.slice A l.length c) l∧Below w.heap.size w w'
noncomputable def xpF (S:Sh) (ids:List Int):Sh:=ids.foldl gbB S
theorem xp_next {S:Sh} {ids:List Int} {k:Nat} (h:k<ids.length):xpF S (ids.take (k+1))=gbB (xpF S (ids.take k)) ids[k]:=by
 rw [←List.take_append_getElem h]
 unfold xpF
 rw [List.foldl_append]
 rfl
theorem nl_three (w:World) (a b c:Rn) (t:TypeId):Nl (w.alloc (.cells #[.int .i64 a.n,.int .i64 a.lo,.int .i64 a.hi,.int .i64 b.n,.int .i64 b.lo,.int .i64 b.hi,.int .i64 c.n,.int .i64 c.lo,.int .i64 c.hi] t)) (w.heap.size+1) (.slice (some ⟨w.heap.size,0,none⟩) 3 3) [a,b,c]:=by
 refine ⟨_,3,rfl,Nat.le_refl _,by unfold maxLen;omega,by simp [rcs,Rn.l],fun _=>⟨w.heap.size,0,rfl,Nat.lt_succ_self _,fun j u hu=>?_⟩⟩
 rw [Nat.zero_add,World.cell?_alloc_new]
 simpa [rcs,Rn.l] using hu
theorem Nr.offp {W:World} {B n c:Nat} {A:Option Addr} {l:List Int} (h:Nr W B (.slice A n c) l) {p:Addr} (ho:OffB p.block n A) (v:Value):Nr (W.setCell p v) B (.slice A n c) l:=by
 obtain ⟨A',c',e,h2,h3,hr⟩:=h
 injection e with e1 e2 e3
 subst e1;subst e2;subst e3
 exact ⟨A,c,rfl,h2,h3,hr.offp ho v⟩
theorem Nr.setsP {p B n c:Nat} {A:Option Addr} {l:List Int} (ho:OffB p n A):∀ (vs:List Value) (m:Nat) (W:World),Nr W B (.slice A n c) l→Nr (W.setCells p m vs) B (.slice A n c) l
 | [],_,_,h=>h
 | v::r,m,W,h=>Nr.setsP ho r (m+1) _ (h.offp (p:=⟨p,m,none⟩) ho v)
structure XpAt (w:World) (p r:Nat) (S:Sh) (D:Sx) (A0:Option Addr) (c0:Nat) (ids:List Int) (W:World):Prop where
 sa:SAt w p S D W
 rs:SB8 W r zS zX
 nr:Nr W W.heap.size (.slice A0 ids.length c0) ids
 o0:OffB p ids.length A0
 o1:OffB r ids.length A0
 dr:D.nw (r+1)
 ne:p<r
theorem XpAt.below {w W W' : World} {p r c0:Nat} {S:Sh} {D:Sx} {A0:Option Addr} {ids:List Int} (h:XpAt w p r S D A0 c0 ids W) (hb:Below W.heap.size W W'):XpAt w p r S D A0 c0 ids W':=
 ⟨h.sa.below hb,h.rs.up hb,h.nr.up hb,h.o0,h.o1,h.dr,h.ne⟩
theorem XpAt.put {w W:World} {p r c0:Nat} {S T:Sh} {D E:Sx} {A0:Option Addr} {ids:List Int} (h:XpAt w p r S D A0 c0 ids W) (hr:SR W W.heap.size T E) (he:E.nw (r+1)):XpAt w p r T E A0 c0 ids (set8s W p T E):=
 ⟨h.sa.put hr (he.off (by have:=h.ne;omega)),h.rs.put_far (by have:=h.ne;omega) T E,(Nr.setsP h.o0 (T.l8 E) 0 W h.nr).more (by show _≤(set8s W p T E).heap.size;rw [set8s_size];exact Nat.le_refl _),h.o0,h.o1,he,h.ne⟩
theorem xp_out {w W:World} {p r c0:Nat} {S:Sh} {D:Sx} {A0:Option Addr} {ids:List Int} (h:XpAt w p r S D A0 c0 ids W):SIe w S ids 0 (.returned (.tuple #[sv S D,.slice A0 ids.length c0,.int .i64 0])) (set8s W r S D):=by
 have hne:=h.ne
 have hold:=h.sa.old
 exact ⟨D,A0,c0,rfl,h.dr.low (by omega),SR.sets (h.dr.off (Nat.lt_succ_self r)) (S.l8 D) 0 W h.sa.sr,(Nr.setsP h.o1 (S.l8 D) 0 W h.nr).more (by show _≤(set8s W r S D).heap.size;rw [set8s_size];exact Nat.le_refl _),set8s_below (by omega) h.sa.bel S D⟩
set_option maxHeartbeats 8000000 in
set_option maxRecDepth 20000 in
theorem sexp_ok (V:Vs) (k:V.Ok) (D:Sx) (now ep lim:Int) (w:World) (hs:SR w w.heap.size V.sh D) (hB:xpB now ep lim=true) :
  Calls Tryz.prog 18 #[sv V.sh D,.int .i64 now,.int .i64 ep,.int .i64 lim] w (SIe w (xpF V.sh (laV V.l V.h now ep)) (laV V.l V.h now ep) 0):=by
 have HV:=Lh (fun A c p W (q:SAt w p V.sh D W) (hn:Nl W W.heap.size (.slice A 3 c) [⟨now,0,1073741824⟩,⟨ep,0,65536⟩,⟨lim,1,8⟩])=>sexam_any V.sh D A 3 c [⟨now,0,1073741824⟩,⟨ep,0,65536⟩,⟨lim,1,8⟩] W q.sr hn)
 have HE:([⟨now,0,1073741824⟩,⟨ep,0,65536⟩,⟨lim,1,8⟩]:List Rn).all Rn.ok=xpB now ep lim:=by simp [Rn.ok,xpB]
 rw [HE,hB,k.ex true,if_pos rfl] at HV
 have hn1:1≤V.sh.cs.length:=by rw [show V.sh.cs.length=V.n from fil_len _ _ _];exact k.n1
 have hn2:V.sh.cs.length≤12:=by rw [show V.sh.cs.length=V.n from fil_len _ _ _];exact k.n2
 have hn3:V.sh.l.length≤12:=k.tb.len
 have hn4:V.sh.h.length≤12:=by have:=k.tb.hlen;show V.h.length≤12;have:=k.tb.len;omega
 have HCL:=Lh (fun p D W (q:SAt w p V.sh D W)=>sclone_any V.sh D W q.sr hn1 (by omega) (by omega) (by omega))
 have HLP:=Lh (fun p D W (q:SAt w p V.sh D W)=>llapsed_nw D.A2 V.sh.l.length D.c2 V.sh.l D.A3 V.sh.h.length D.c3 V.sh.h now ep W q.sr.el q.sr.dl)
 have H0:=Lh ((SAt.start 33 hs).alloc (.cells #[.bool false,.int .i64 0,.int .i64 0,.slice none 0 0,.int .i64 0,.int .i64 0,.slice none 0 0,.slice none 0 0] 33))
 have R0:=Lh (SB8.zero (w.alloc (.cells #[.bool V.sh.lv,.int .i64 V.sh.lo,.int .i64 V.sh.hi,.slice D.A V.sh.cs.length D.c,.int .i64 V.sh.hd,.int .i64 V.sh.sz,.slice D.A2 V.sh.l.length D.c2,.slice D.A3 V.sh.h.length D.c3] 33)) 33)
 have HID:laV V.sh.l V.sh.h now ep=laV V.l V.h now ep:=rfl
 rw [HID] at HLP
 clear HE HID hs hB k hn1 hn2 hn3 hn4
 generalize laV V.l V.h now ep=ids at*
 obtain ⟨S,hS⟩:∃ S,S=V.sh:=⟨_,rfl⟩
 rw [←hS] at HV HCL HLP H0 R0
 rw [←hS]
 clear hS
 have HX0:=Lh (show S=xpF S (ids.take 0) from rfl)
 have HXE:=Lh (show xpF S (ids.take ids.length)=xpF S ids by rw [List.take_length])
 have HXN:=Lh (fun j (h:j<ids.length)=>xp_next (S:=S) h)
 have HT:=Lh (fun W=>atime_any now W)
 have HP:=Lh (fun W=>aepoch_any ep W)
 have HL:=Lh (fun W=>alimit_any lim W)
 obtain ⟨F,hF⟩:∃ F,F=xpF S:=⟨_,rfl⟩
 rw [←hF] at HX0 HXE HXN
 have HFF:=Lh hF
 clear hF
 go_enter Tryz.func18,Tryz.ntmps18
 obtain ⟨p,hp⟩:∃ p,p=w.heap.size:=⟨_,rfl⟩
 obtain ⟨r,hr⟩:∃ r,r=w.heap.size+1:=⟨_,rfl⟩
 have e1:(w.alloc (.cells #[.bool S.lv,.int .i64 S.lo,.int .i64 S.hi,.slice D.A S.cs.length D.c,.int .i64 S.hd,.int .i64 S.sz,.slice D.A2 S.l.length D.c2,.slice D.A3 S.h.length D.c3] 33)).heap.size=r:=by rw [hr];simp
 rw [e1] at R0
 have HPR:=Lh (show ¬p=r∧¬r=p∧w.heap.size≤p∧p<r by omega)
 go_upto_region 1 with (fail)
 rw [←hr,←hp]
 rw [←hp] at H0
 clear e1 hp hr
 generalize ((w.alloc (.cells #[.bool S.lv,.int .i64 S.lo,.int .i64 S.hi,.slice D.A S.cs.length D.c,.int .i64 S.hd,.int .i64 S.sz,.slice D.A2 S.l.length D.c2,.slice D.A3 S.h.length D.c3] 33)).alloc (.cells #[.bool false,.int .i64 0,.int .i64 0,.slice none 0 0,.int .i64 0,.int .i64 0,.slice none 0 0,.slice none 0 0] 33))=w1 at*
 have HD:=Lh H0.out.drew
 have R1:=Lh (R0.out.up ((Below.refl _ _).drew))
 have HT0:=Lh (show K8 p S D w1.drew from HD.out.k8)
 go_region_held3 (fun W=>K8 p S D W)
  (first | with_reducible exact HT0.out | with_reducible exact HT1.out | with_reducible exact HT2.out | with_reducible exact HT3.out | with_reducible exact HT4.out | with_reducible exact HT5.out)
  (first
  | (go_at_call 41;(with_reducible refine (HT.out _).mono ?_);rintro e w2 ⟨rfl,hb⟩;have HA1:=Lh (HD.out.below hb);have R2:=Lh (R1.out.up hb);have HT1:=Lh HA1.out.k8;clear hb)
  | (go_at_call 43;(with_reducible refine (HP.out _).mono ?_);rintro e w3 ⟨rfl,hb⟩;have HA2:=Lh (HA1.out.below hb);have R3:=Lh (R2.out.up hb);have HT2:=Lh HA2.out.k8;clear hb)
  | (go_at_call 44;(with_reducible refine (HL.out _).mono ?_);rintro e w4 ⟨rfl,hb⟩;have HA3:=Lh (HA2.out.below hb);have HT3:=Lh HA3.out.k8;have HA4:=Lh (HA3.out.alloc (.cells #[.int .i64 now,.int .i64 0,.int .i64 1073741824,.int .i64 ep,.int .i64 0,.int .i64 65536,.int .i64 lim,.int .i64 1,.int .i64 8] 82));have R4:=Lh ((R3.out.up hb).up ((Below.refl _ _).alloc (Nat.le_refl _) (.cells #[.int .i64 now,.int .i64 0,.int .i64 1073741824,.int .i64 ep,.int .i64 0,.int .i64 65536,.int .i64 lim,.int .i64 1,.int .i64 8] 82)));have HT4:=Lh HA4.out.k8;have HNL:=Lh (nl_three w4 ⟨now,0,1073741824⟩ ⟨ep,0,65536⟩ ⟨lim,1,8⟩ 82);clear hb)
  | (go_at_call 40;(with_reducible refine (HV.out _ _ _ _ HA4.out ?_).mono ?_);(have:=HNL.out;simpa using this);rintro e w5 ⟨rfl,hb⟩;have HA5:=Lh (HA4.out.below hb);have R5:=Lh (R4.out.up hb);have HT5:=Lh HA5.out.k8;clear hb))
 clear HD HT0 HT1 HT2 HT3 HT4 HT5 HA1 HA2 HA3 HA4 HNL HT HP HL HV H0 R0 R1 R2 R3 R4
 obtain ⟨t0,t1,t2,t3,t4,t5,t6,t7,tl⟩:=HA5.out.s8.facts
 go_wp2_with fail
 clear t0 t1 t2 t3 t4 t5 t6 t7 tl
 refine (HCL.out _ _ _ HA5.out).mono ?_
 rintro e w6 ⟨D2,rfl,hn2,hr2,hb⟩
 have H1:=Lh (HA5.out.below hb)
 have H2:=Lh (show SAt w p S D2 ((((((((w6.setCell ⟨p,0,none⟩ (.bool S.lv)).setCell ⟨p,1,none⟩ (.int .i64 S.lo)).setCell ⟨p,2,none⟩ (.int .i64 S.hi)).setCell ⟨p,3,none⟩ (.slice D2.A S.cs.length D2.c)).setCell ⟨p,4,none⟩ (.int .i64 S.hd)).setCell ⟨p,5,none⟩ (.int .i64 S.sz)).setCell ⟨p,6,none⟩ (.slice D2.A2 S.l.length D2.c2)).setCell ⟨p,7,none⟩ (.slice D2.A3 S.h.length D2.c3)) from H1.out.put hr2 (hn2.off HA5.out.lt))
 have R2:=Lh (show SB8 ((((((((w6.setCell ⟨p,0,none⟩ (.bool S.lv)).setCell ⟨p,1,none⟩ (.int .i64 S.lo)).setCell ⟨p,2,none⟩ (.int .i64 S.hi)).setCell ⟨p,3,none⟩ (.slice D2.A S.cs.length D2.c)).setCell ⟨p,4,none⟩ (.int .i64 S.hd)).setCell ⟨p,5,none⟩ (.int .i64 S.sz)).setCell ⟨p,6,none⟩ (.slice D2.A2 S.l.length D2.c2)).setCell ⟨p,7,none⟩ (.slice D2.A3 S.h.length D2.c3)) r zS zX from (R5.out.up hb).put_far HPR.out.2.1 S D2)
 have N2:=Lh (show D2.nw (r+1) from hn2.low R5.out.lt)
 clear hn2 hr2 hb
 obtain ⟨⟨t0,t1,t2,t3,t4,t5,t6,t7,tl⟩,⟨f0,f1,f2,f3,f4,f5,f6,f7⟩⟩:=H1.out.s8.all
 go_wp2_with fail
 clear t0 t1 t2 t3 t4 t5 t6 t7 tl f0 f1 f2 f3 f4 f5 f6 f7 H1 HA5 R5
 generalize ((((((((w6.setCell ⟨p,0,none⟩ (.bool S.lv)).setCell ⟨p,1,none⟩ (.int .i64 S.lo)).setCell ⟨p,2,none⟩ (.int .i64 S.hi)).setCell ⟨p,3,none⟩ (.slice D2.A S.cs.length D2.c)).setCell ⟨p,4,none⟩ (.int .i64 S.hd)).setCell ⟨p,5,none⟩ (.int .i64 S.sz)).setCell ⟨p,6,none⟩ (.slice D2.A2 S.l.length D2.c2)).setCell ⟨p,7,none⟩ (.slice D2.A3 S.h.length D2.c3))=w7 at*
 refine (HLP.out _ _ _ H2.out).mono ?_
 rintro e w8 ⟨A0,c0,rfl,hni,hb,hnw⟩
 have HX:=Lh (show XpAt w p r S D2 A0 c0 ids w8 from ⟨H2.out.below hb,R2.out.up hb,hni,offb_nw hnw H2.out.lt,offb_nw hnw R2.out.lt,N2.out,HPR.out.2.2.2⟩)
 have hl64:ids.length≤9223372036854775807:=by have:=hni.len;unfold maxLen at this;omega
 clear hni hb hnw H2 R2 N2 HCL HLP
 go_wp2
 go_loopw [37] (fun i wr=>∃ (k:Nat) (S:Sh) (D:Sx),k≤ids.length∧i=.int .i64 k∧Hid (S=F (ids.take k))∧Hid (XpAt w p r S D A0 c0 ids wr)) (fun i _=>ids.length - (intOf i).toNat)
 case atStart=>exact ⟨0,S,D2,Nat.zero_le _,rfl,HX0,HX⟩
 case round=>
  clear HX HX0
  obtain ⟨k,S,D,hk,rfl,HS,HX⟩:=hrel
  by_cases hlt:k<ids.length
  ·obtain ⟨b,o,rfl,hbl,c0'⟩:=HX.out.nr.at_ hlt
   have HNX:=Lh (HXN.out k hlt)
   rw [←HS.out] at HNX
   generalize ids[k]=x at*
   obtain ⟨T,hT⟩:∃ T,T=gbB S x:=⟨_,rfl⟩
   have HGB:=Lh (fun D W (q:SAt w p S D W)=>giveback_any S D x W q.sr)
   rw [←hT] at HNX HGB
   have HTT:=Lh HNX.out.symm
   clear hT HNX HXN
   obtain ⟨t0,t1,t2,t3,t4,t5,t6,t7,tl⟩:=HX.out.sa.s8.facts
   go_wp2_with fail
   clear t0 t1 t2 t3 t4 t5 t6 t7 tl
   refine (HGB.out _ _ HX.out.sa).mono ?_
   rintro e w9 ⟨D3,rfl,hn3,hr3,hb⟩
   have HX9:=Lh (HX.out.below hb)
   have HXP:=Lh (show XpAt w p r T D3 (some ⟨b,o,none⟩) c0 ids ((((((((w9.setCell ⟨p,0,none⟩ (.bool T.lv)).setCell ⟨p,1,none⟩ (.int .i64 T.lo)).setCell ⟨p,2,none⟩ (.int .i64 T.hi)).setCell ⟨p,3,none⟩ (.slice D3.A T.cs.length D3.c)).setCell ⟨p,4,none⟩ (.int .i64 T.hd)).setCell ⟨p,5,none⟩ (.int .i64 T.sz)).setCell ⟨p,6,none⟩ (.slice D3.A2 T.l.length D3.c2)).setCell ⟨p,7,none⟩ (.slice D3.A3 T.h.length D3.c3)) from HX9.out.put hr3 (hn3.low HX.out.rs.lt))
   clear hn3 hr3 hb
   obtain ⟨⟨t0,t1,t2,t3,t4,t5,t6,t7,tl⟩,⟨f0,f1,f2,f3,f4,f5,f6,f7⟩⟩:=HX9.out.sa.s8.all
   go_wp2
   go_roundw
   case rel=>exact ⟨k+1,T,D3,by omega,by go_num,HTT,HXP⟩
   case measure=>simp [intOf];omega
  ·obtain rfl:k=ids.length:=by omega
   have HF:=Lh (show SIe w (F ids) ids 0 (.returned (.tuple #[sv S D,.slice A0 ids.length c0,.int .i64 0])) (set8s wr r S D) from by
    rw [←HXE.out,←HS.out]
    exact xp_out HX.out)
   rw [HFF.out] at HF
   obtain ⟨⟨t0,t1,t2,t3,t4,t5,t6,t7,tl⟩,⟨f0,f1,f2,f3,f4,f5,f6,f7⟩⟩:=HX.out.sa.s8.all
   obtain ⟨⟨r0,r1,r2,r3,r4,r5,r6,r7,rl⟩,⟨g0,g1,g2,g3,g4,g5,g6,g7⟩⟩:=HX.out.rs.all
   obtain ⟨hpr,hrp,-,-⟩:=HPR.out
   go_wp2
   exact bodyPost_ret (v:=.tuple #[sv S D,.slice A0 ids.length c0,.int .i64 0]) (by simp only [results,Tryz.results18];go_simp <;> rfl) rfl HF.out
theorem put_sh {V:Vs} {M:Msg} (k:V.Ok) (f:Fits V M):puS V.sh M=0∧spuR V.sh M=(V.push M).sh:=by
 have hd:dpB (V.sh.al++[M])=false:=by
  rw [k.al_sh]
  exact dpB_no (gd_perm (List.perm_append_singleton M V.al).symm (gd_cons.2 ⟨f.vf,k.gd,f.new⟩)).2
 have e:puS V.sh M=0:=puS_0 (by rw [k.ex true];rfl) f.vf (wi_true f.own.1 f.own.2) (by
  show ¬((V.L.length:Int)+V.l.length=(fil V.n V.hd V.L).length)
  rw [fil_len]
  have:=f.room
  omega) hd
 refine ⟨e,?_⟩
 obtain ⟨p1,p2⟩:=k.pb f
 unfold spuR
 rw [if_pos e]
 show Sh.mk true V.lo V.hi (pbC (fil V.n V.hd V.L) V.hd V.L.length M) (ifE (puE (fil V.n V.hd V.L) V.hd V.L.length M) V.hd) (ifE (puE (fil V.n V.hd V.L) V.hd V.L.length M) (V.L.length+1)) V.l V.h=Sh.mk true V.lo V.hi (fil V.n V.hd (V.L++[M])) V.hd (V.L++[M]).length V.l V.h
 rw [p1,p2]
 simp [ifE]
theorem new_sh {n:Nat} {lo hi:Int} (h1:1≤n) (h2:n≤12) (hs:0≤lo∧lo≤hi∧hi<65536):neE n lo hi=0∧neS n lo hi=(⟨lo,hi,n,0,[],[],[]⟩:Vs).sh∧(⟨lo,hi,n,0,[],[],[]⟩:Vs).Ok:=by
 obtain ⟨e1,e2⟩:=nwC_fil h1 h2 0 (by omega)
 have e:neE n lo hi=0:=by unfold neE;rw [if_neg (fun g=>g e2),if_pos (spB_iff.2 hs)]
 refine ⟨e,?_,⟨h1,h2,by show 0<n;omega,TbOk.nil,hs,by show 0+0≤n;omega,gd_nil,fun M hM=>by cases hM⟩⟩
 unfold neS
 rw [if_pos e,e1]
 rfl
def mA1:Msg:=⟨1,0,0,0,0,0,⟨#[]⟩⟩
def xA1:Le:=⟨⟨1,0,0,1,1,0,⟨#[]⟩⟩,15⟩
def vA0:Vs:=⟨0,65535,3,0,[],[],[]⟩
def vA1:Vs:=⟨0,65535,3,0,[mA1],[],[]⟩
def vA2:Vs:=⟨0,65535,3,0,[],[xA1],[xA1.du]⟩
theorem aA0:neE 3 0 65535=0∧neS 3 0 65535=vA0.sh∧vA0.Ok:=new_sh (n:=3) (by decide) (by decide) (by decide)
theorem fA1:Fits vA0 mA1:=⟨by decide,by decide,by decide,fun N hN=>by cases hN⟩
theorem aA1:puS vA0.sh mA1=0∧spuR vA0.sh mA1=vA1.sh∧vA1.Ok:=by
 obtain ⟨h1,h2⟩:=put_sh aA0.2.2 fA1
 exact ⟨h1,h2,aA0.2.2.push fA1⟩
theorem dA1:dlM mA1=xA1.m:=dl_rv (M:=mA1) (ep:=0) (lim:=3) (by decide) (by decide) (by decide)
theorem oA1:leOk xA1:=⟨by decide,by decide,by decide,by decide⟩
theorem kA1:pk 1 (fun M=>rvF M 0 3) [mA1]=([mA1],[]):=by
 have h:rvF mA1 0 3=true:=by decide
 unfold pk pkS
 simp [h]
theorem aA2:vA1.take 1 (fun M=>rvF M 0 3) 15=vA2∧vA2.Ok:=by
 have e0:(vA1.ring []).Ok:=ring_ok aA1.2.2 (List.nil_sublist _)
 have f:Fits (vA1.ring []) xA1.m:=⟨by decide,by decide,by decide,fun N hN=>by cases hN⟩
 obtain ⟨h1,h2,-,h3⟩:=e0.gr (x:=xA1) f oA1
 have e3:(vA1.ring []).gr xA1=vA2:=by
  have g1:grL [] [] xA1=[xA1]:=h3.trans rfl
  have g0:grE [] [] xA1=0:=h1
  have g2:grH [] [] xA1=[xA1.du]:=by
   unfold grH
   rw [if_pos g0]
   unfold hpu
   rw [List.length_nil,upF_zero]
   rfl
  show Vs.mk 0 65535 3 0 [] (grL [] [] xA1) (grH [] [] xA1)=_
  rw [g1,g2]
  rfl
 have e4:vA1.take 1 (fun M=>rvF M 0 3) 15=(vA1.ring []).gr xA1:=by
  unfold Vs.take
  rw [show vA1.L=[mA1] from rfl,kA1]
  show (vA1.ring []).gr ⟨dlM mA1,15⟩=_
  rw [dA1]
  rfl
 rw [e4,e3]
 rw [e3] at h2
 exact ⟨rfl,h2⟩
theorem lA1:lzF 15 (pk 1 (fun M=>rvF M 0 3) vA1.L).1=[xA1]:=by
 rw [show vA1.L=[mA1] from rfl,kA1]
 show [(⟨dlM mA1,15⟩:Le)]=_
 rw [dA1]
 rfl
theorem fnA:fnO vA2.l vA2.h 1=true∧fnX vA2.l vA2.h 1=xA1:=aA2.2.tb.fn (k:=0) (by decide)
theorem hA14:hoF vA2.sh ⟨1,1,0,0⟩ 14 0=true:=by
 unfold hoF
 rw [aA2.2.ex]
 rw [show fnO vA2.sh.l vA2.sh.h 1=true from fnA.1,show fnX vA2.sh.l vA2.sh.h 1=xA1 from fnA.2]
 decide
theorem hA15:hoF vA2.sh ⟨1,1,0,0⟩ 15 0=false:=by
 unfold hoF
 rw [aA2.2.ex]
 rw [show fnO vA2.sh.l vA2.sh.h 1=true from fnA.1,show fnX vA2.sh.l vA2.sh.h 1=xA1 from fnA.2]
 decide
theorem lpA:laV vA2.l vA2.h 15 0=[1]:=by
 have t:=aA2.2.tb
 have hh:=(vaF_zero t.va).2.2.2
 have e:unF vA2.h 15=[1]:=by
  rw [unF_sorted hh (List.Perm.refl _) (by unfold Srt;exact List.pairwise_singleton _ _)]
  decide
 rw [t.lav]
 unfold laF
 rw [e,List.filter_cons,fnA.2]
 rfl
def SO1 (w:World) (S:Sh) (e:Ending) (w' : World):Prop:=∃ D A c,e=.returned (.tuple #[sv S D,.slice A 1 c,.int .i64 0])∧D.nw w.heap.size∧SR w' w'.heap.size S D∧Below w.heap.size w w'
theorem SAt.made {w W:World} {S:Sh} {D:Sx} (t:TypeId) (hb:Below w.heap.size w W) (hr:SR W W.heap.size S D):SAt w W.heap.size S D (W.alloc (.cells #[.bool S.lv,.int .i64 S.lo,.int .i64 S.hi,.slice D.A S.cs.length D.c,.int .i64 S.hd,.int .i64 S.sz,.slice D.A2 S.l.length D.c2,.slice D.A3 S.h.length D.c3] t)):=
 ⟨SB8.start W S D _,hr.up ((Below.refl _ _).alloc (Nat.le_refl _) _),hr.offs (Nat.le_refl _),hb.alloc hb.size _,hb.size⟩
set_option maxHeartbeats 8000000 in
set_option maxRecDepth 20000 in
theorem awake7_any (w:World):Calls Tryz.prog 21 #[] w fun e w'=>e=.returned (.bool true)∧Below w.heap.size w w':=by
 obtain ⟨S0,hS0⟩:∃ S,S=vA0.sh:=⟨_,rfl⟩
 obtain ⟨S1,hS1⟩:∃ S,S=vA1.sh:=⟨_,rfl⟩
 obtain ⟨S2,hS2⟩:∃ S,S=vA2.sh:=⟨_,rfl⟩
 have HN:=Lh (fun W=>show Calls Tryz.prog 31 #[.int .i64 3,.int .i64 0,.int .i64 65535] W (SE W S0 0) from by
  have h:=snew_any 3 0 65535 W
  rw [aA0.1,aA0.2.1,←hS0] at h
  exact h)
 have HP:=Lh (fun D W (k:SR W W.heap.size S0 D)=>show Calls Tryz.prog 32 #[sv S0 D,.agg #[.int .i64 1,.int .i64 0,.int .i64 0,.int .i64 0,.int .i64 0,.int .i64 0,.string ⟨#[]⟩]] W (SE W S1 0) from by
  have h:=sput_any S0 D mA1 W k
  rw [hS0,aA1.1,aA1.2.1,←hS1,←hS0] at h
  exact h)
 have HT:=Lh (fun D W (k:SR W W.heap.size S1 D)=>show Calls Tryz.prog 15 #[sv S1 D,.int .i64 1,.int .i64 10,.int .i64 5,.int .i64 0,.int .i64 3] W (SO1 W S2) from by
  rw [hS1] at k ⊢
  have h:=stake_ok vA1 aA1.2.2 D 1 10 5 0 3 W k (by decide) (by decide)
  rw [show (10:Int)+5=15 from rfl,aA2.1,lA1,←hS2] at h
  exact h.mono fun e w' ⟨D,A,c,he,hn,hr,_,_,hb⟩=>⟨D,A,c,he,hn,hr,hb⟩)
 have HH1:=Lh (fun D W (k:SR W W.heap.size S2 D)=>show Calls Tryz.prog 23 #[sv S2 D,.agg #[.int .i64 1,.int .i64 1,.int .i64 0,.int .i64 0],.int .i64 14,.int .i64 0] W (fun e w'=>e=.returned (.bool true)∧Below W.heap.size W w') from by
  have h:=sholds_any S2 D ⟨1,1,0,0⟩ 14 0 W k
  rw [hS2,hA14,←hS2] at h
  exact h)
 have HH2:=Lh (fun D W (k:SR W W.heap.size S2 D)=>show Calls Tryz.prog 23 #[sv S2 D,.agg #[.int .i64 1,.int .i64 1,.int .i64 0,.int .i64 0],.int .i64 15,.int .i64 0] W (fun e w'=>e=.returned (.bool false)∧Below W.heap.size W w') from by
  have h:=sholds_any S2 D ⟨1,1,0,0⟩ 15 0 W k
  rw [hS2,hA15,←hS2] at h
  exact h)
 obtain ⟨S3,hS3⟩:∃ S,S=xpF vA2.sh (laV vA2.l vA2.h 15 0):=⟨_,rfl⟩
 have HX:=Lh (fun D W (k:SR W W.heap.size S2 D)=>show Calls Tryz.prog 18 #[sv S2 D,.int .i64 15,.int .i64 0,.int .i64 3] W (SO1 W S3) from by
  rw [hS2] at k ⊢
  have h:=sexp_ok vA2 aA2.2 D 15 0 3 W k (by decide)
  rw [←hS3,lpA] at h
  exact h.mono fun e w' ⟨D,A,c,he,hn,hr,_,hb⟩=>⟨D,A,c,he,hn,hr,hb⟩)
 clear hS0 hS1 hS2 hS3
 go_enter Tryz.func21,Tryz.ntmps21
 go_wp2_with fail
 refine (HN.out _).mono ?_
 rintro e w1 ⟨D0,rfl,hn,hr,hb⟩
 have H0:=Lh (SAt.made 33 hb hr)
 clear hn hr hb
 obtain ⟨a,ha⟩:∃ a,a=w1.heap.size:=⟨_,rfl⟩
 obtain ⟨t0,t1,t2,t3,t4,t5,t6,t7,tl⟩:=H0.out.s8.facts
 go_wp2_with fail
 clear t0 t1 t2 t3 t4 t5 t6 t7 tl
 rw [←ha] at H0 ⊢
 clear ha
 generalize w1.alloc (.cells #[.bool S0.lv,.int .i64 S0.lo,.int .i64 S0.hi,.slice D0.A S0.cs.length D0.c,.int .i64 S0.hd,.int .i64 S0.sz,.slice D0.A2 S0.l.length D0.c2,.slice D0.A3 S0.h.length D0.c3] 33)=w2 at*
 refine (HP.out _ _ H0.out.sr).mono ?_
 rintro e w3 ⟨D1,rfl,hn,hr,hb⟩
 have H1:=Lh (H0.out.below hb)
 have H1':=Lh (show SAt w a S1 D1 ((((((((w3.setCell ⟨a,0,none⟩ (.bool S1.lv)).setCell ⟨a,1,none⟩ (.int .i64 S1.lo)).setCell ⟨a,2,none⟩ (.int .i64 S1.hi)).setCell ⟨a,3,none⟩ (.slice D1.A S1.cs.length D1.c)).setCell ⟨a,4,none⟩ (.int .i64 S1.hd)).setCell ⟨a,5,none⟩ (.int .i64 S1.sz)).setCell ⟨a,6,none⟩ (.slice D1.A2 S1.l.length D1.c2)).setCell ⟨a,7,none⟩ (.slice D1.A3 S1.h.length D1.c3)) from H1.out.put hr (hn.off H0.out.lt))
 clear hn hr hb
 obtain ⟨⟨t0,t1,t2,t3,t4,t5,t6,t7,tl⟩,⟨f0,f1,f2,f3,f4,f5,f6,f7⟩⟩:=H1.out.s8.all
 go_wp2_with fail
 clear t0 t1 t2 t3 t4 t5 t6 t7 tl f0 f1 f2 f3 f4 f5 f6 f7
 generalize ((((((((w3.setCell ⟨a,0,none⟩ (.bool S1.lv)).setCell ⟨a,1,none⟩ (.int .i64 S1.lo)).setCell ⟨a,2,none⟩ (.int .i64 S1.hi)).setCell ⟨a,3,none⟩ (.slice D1.A S1.cs.length D1.c)).setCell ⟨a,4,none⟩ (.int .i64 S1.hd)).setCell ⟨a,5,none⟩ (.int .i64 S1.sz)).setCell ⟨a,6,none⟩ (.slice D1.A2 S1.l.length D1.c2)).setCell ⟨a,7,none⟩ (.slice D1.A3 S1.h.length D1.c3))=w4 at*
 refine (HT.out _ _ H1'.out.sr).mono ?_
 rintro e w5 ⟨D2,A2,c2,rfl,hn,hr,hb⟩
 have H2:=Lh (H1'.out.below hb)
 have H2':=Lh (show SAt w a S2 D2 (((((((((w5.setCell ⟨a,0,none⟩ (.bool S2.lv)).setCell ⟨a,1,none⟩ (.int .i64 S2.lo)).setCell ⟨a,2,none⟩ (.int .i64 S2.hi)).setCell ⟨a,3,none⟩ (.slice D2.A S2.cs.length D2.c)).setCell ⟨a,4,none⟩ (.int .i64 S2.hd)).setCell ⟨a,5,none⟩ (.int .i64 S2.sz)).setCell ⟨a,6,none⟩ (.slice D2.A2 S2.l.length D2.c2)).setCell ⟨a,7,none⟩ (.slice D2.A3 S2.h.length D2.c3)).alloc (.cells #[.int .i64 1,.int .i64 1,.int .i64 0,.int .i64 0] 40)) from (H2.out.put hr (hn.off H1'.out.lt)).alloc _)
 have Q2:=Lh (show H4 (((((((((w5.setCell ⟨a,0,none⟩ (.bool S2.lv)).setCell ⟨a,1,none⟩ (.int .i64 S2.lo)).setCell ⟨a,2,none⟩ (.int .i64 S2.hi)).setCell ⟨a,3,none⟩ (.slice D2.A S2.cs.length D2.c)).setCell ⟨a,4,none⟩ (.int .i64 S2.hd)).setCell ⟨a,5,none⟩ (.int .i64 S2.sz)).setCell ⟨a,6,none⟩ (.slice D2.A2 S2.l.length D2.c2)).setCell ⟨a,7,none⟩ (.slice D2.A3 S2.h.length D2.c3)).alloc (.cells #[.int .i64 1,.int .i64 1,.int .i64 0,.int .i64 0] 40)) w5.heap.size ⟨1,1,0,0⟩ from by
  have h:=H4.start ((((((((w5.setCell ⟨a,0,none⟩ (.bool S2.lv)).setCell ⟨a,1,none⟩ (.int .i64 S2.lo)).setCell ⟨a,2,none⟩ (.int .i64 S2.hi)).setCell ⟨a,3,none⟩ (.slice D2.A S2.cs.length D2.c)).setCell ⟨a,4,none⟩ (.int .i64 S2.hd)).setCell ⟨a,5,none⟩ (.int .i64 S2.sz)).setCell ⟨a,6,none⟩ (.slice D2.A2 S2.l.length D2.c2)).setCell ⟨a,7,none⟩ (.slice D2.A3 S2.h.length D2.c3)) ⟨1,1,0,0⟩ 40
  rw [show (((((((((w5.setCell ⟨a,0,none⟩ (.bool S2.lv)).setCell ⟨a,1,none⟩ (.int .i64 S2.lo)).setCell ⟨a,2,none⟩ (.int .i64 S2.hi)).setCell ⟨a,3,none⟩ (.slice D2.A S2.cs.length D2.c)).setCell ⟨a,4,none⟩ (.int .i64 S2.hd)).setCell ⟨a,5,none⟩ (.int .i64 S2.sz)).setCell ⟨a,6,none⟩ (.slice D2.A2 S2.l.length D2.c2)).setCell ⟨a,7,none⟩ (.slice D2.A3 S2.h.length D2.c3))).heap.size=w5.heap.size by simp] at h
  exact h)
 clear hn hr hb
 obtain ⟨⟨t0,t1,t2,t3,t4,t5,t6,t7,tl⟩,⟨f0,f1,f2,f3,f4,f5,f6,f7⟩⟩:=H2.out.s8.all
 go_wp2_with fail
 clear t0 t1 t2 t3 t4 t5 t6 t7 tl f0 f1 f2 f3 f4 f5 f6 f7
 generalize (((((((((w5.setCell ⟨a,0,none⟩ (.bool S2.lv)).setCell ⟨a,1,none⟩ (.int .i64 S2.lo)).setCell ⟨a,2,none⟩ (.int .i64 S2.hi)).setCell ⟨a,3,none⟩ (.slice D2.A S2.cs.length D2.c)).setCell ⟨a,4,none⟩ (.int .i64 S2.hd)).setCell ⟨a,5,none⟩ (.int .i64 S2.sz)).setCell ⟨a,6,none⟩ (.slice D2.A2 S2.l.length D2.c2)).setCell ⟨a,7,none⟩ (.slice D2.A3 S2.h.length D2.c3)).alloc (.cells #[.int .i64 1,.int .i64 1,.int .i64 0,.int .i64 0] 40))=w6 at*
 refine (HX.out _ _ H2'.out.sr).mono ?_
 rintro e w7 ⟨D3,A3,c3,rfl,hn,hr,hb⟩
 have H3:=Lh ((H2'.out.below hb).alloc (.cells #[.bool S3.lv,.int .i64 S3.lo,.int .i64 S3.hi,.slice D3.A S3.cs.length D3.c,.int .i64 S3.hd,.int .i64 S3.sz,.slice D3.A2 S3.l.length D3.c2,.slice D3.A3 S3.h.length D3.c3] 33))
 have Q3:=Lh ((Q2.out.up hb).up ((Below.refl _ _).alloc (Nat.le_refl _) (.cells #[.bool S3.lv,.int .i64 S3.lo,.int .i64 S3.hi,.slice D3.A S3.cs.length D3.c,.int .i64 S3.hd,.int .i64 S3.sz,.slice D3.A2 S3.l.length D3.c2,.slice D3.A3 S3.h.length D3.c3] 33)))
 clear hn hr hb
 obtain ⟨t0,t1,t2,t3,t4,t5,t6,t7,tl⟩:=H3.out.s8.facts
 obtain ⟨q0,q1,q2,q3,ql⟩:=Q3.out
 go_wp2_with fail
 clear t0 t1 t2 t3 t4 t5 t6 t7 tl q0 q1 q2 q3 ql
 refine (HH1.out _ _ H3.out.sr).mono ?_
 rintro e w8 ⟨rfl,hb⟩
 have H4':=Lh (H3.out.below hb)
 have Q4:=Lh (Q3.out.up hb)
 clear hb
 obtain ⟨t0,t1,t2,t3,t4,t5,t6,t7,tl⟩:=H4'.out.s8.facts
 obtain ⟨q0,q1,q2,q3,ql⟩:=Q4.out
 go_wp2_with fail
 clear t0 t1 t2 t3 t4 t5 t6 t7 tl q0 q1 q2 q3 ql
 refine (HH2.out _ _ H4'.out.sr).mono ?_
 rintro e w9 ⟨rfl,hb⟩
 have H5:=Lh (H4'.out.below hb)
 clear hb
 go_wp2
 go_ret
 exact ⟨rfl,H5.out.bel⟩
theorem SAt.grownG {w W W' : World} {p g:Nat} {S:Sh} {D:Sx} (h:SAt w p S D W) (hg:W.grownBy W' (some g)) (ho:SOff S D g) (hne:p≠g) (hB:w.heap.size≤g):SAt w p S D W':=
 ⟨h.s8.grownG hg hne,⟨(h.sr.ls.grownR (Nat.le_refl _) hg (fun q e=>by injection e with e;subst e;exact ho.o1)).more hg.size,(h.sr.el.grownR (Nat.le_refl _) hg (fun q e=>by injection e with e;subst e;exact ho.o2)).more hg.size,(h.sr.dl.grownR (Nat.le_refl _) hg (fun q e=>by injection e with e;subst e;exact ho.o3)).more hg.size⟩,h.off,
  h.bel.grown hg h.bel.size (fun x e=>by injection e with e;omega),h.old⟩
structure D5 (W:World) (d:Nat) (mx now vis ep lim:Int):Prop where
 c0:W.cell? ⟨d,0,none⟩=some (.int .i64 mx)
 c1:W.cell? ⟨d,1,none⟩=some (.int .i64 now)
 c2:W.cell? ⟨d,2,none⟩=some (.int .i64 vis)
 c3:W.cell? ⟨d,3,none⟩=some (.int .i64 ep)
 c4:W.cell? ⟨d,4,none⟩=some (.int .i64 lim)
 lt:d<W.heap.size
def H4f (W:World) (q:Nat) (H:Hn):Prop:=H4 W q H∧∀ o,W.frozen? ⟨q,o,none⟩=false
structure LwAt (w:World) (p d s:Nat) (S T:Sh) (D E:Sx) (mx now vis ep lim:Int) (A:Option Addr) (c:Nat) (K:List Le) (W:World):Prop where
 sa:SAt w p S D W
 sb:SAt w s T E W
 d5:D5 W d mx now vis ep lim
 el:El W W.heap.size (.slice A K.length c) K
structure LuAt (w:World) (p d s q a z:Nat) (S T:Sh) (D E:Sx) (mx now vis ep lim i g r x y:Int) (A:Option Addr) (c:Nat) (K:List Le) (W:World):Prop where
 lw:LwAt w p d s S T D E mx now vis ep lim A c K W
 hq:H4 W q ⟨i,g,r,0⟩
 ha:H4 W a ⟨i,x,r,0⟩
 hz:H4 W z ⟨i,g,y,0⟩
structure LzAt (w:World) (p d s q a z u v:Nat) (S T F1 F2:Sh) (D E D3 D4:Sx) (mx now vis ep lim i g r x y:Int) (A:Option Addr) (c:Nat) (K:List Le) (W:World):Prop where
 lu:LuAt w p d s q a z S T D E mx now vis ep lim i g r x y A c K W
 s1:SAt w u F1 D3 W
 s2:SAt w v F2 D4 W
abbrev LzK (d s q u v:Nat) (T F1 F2:Sh) (E D3 D4:Sx) (now ep i g r:Int) (W:World):Prop:=K8 u F1 D3 W∧K8 v F2 D4 W∧K8 s T E W∧W.cell? ⟨q,0,none⟩=some (.int .i64 i)∧W.cell? ⟨q,1,none⟩=some (.int .i64 g)∧W.cell? ⟨q,2,none⟩=some (.int .i64 r)∧W.cell? ⟨q,3,none⟩=some (.int .i64 0)∧W.cell? ⟨d,1,none⟩=some (.int .i64 now)∧W.cell? ⟨d,3,none⟩=some (.int .i64 ep)
section
variable {w W W' : World} {p d s q a z u v c:Nat} {S T F1 F2:Sh} {D E D3 D4:Sx} {mx now vis ep lim i g r x y:Int} {A:Option Addr} {K:List Le}
end
def SrOdd (B g:Nat) (w:World) (e:Ending) (w' : World):Prop:=∃ M:Msg,e=.returned M.v∧M.bd.size≤18∧SrcAt w' B g∧w.grownBy w' (some g)
theorem row_cells (w:World) (zs:List Int) (t:TypeId):∀ j (hj:j<zs.length),(w.alloc (.cells (zs.map i64v).toArray t)).cell? ⟨w.heap.size,j,none⟩=some (.int .i64 zs[j]):=by
 intro j hj
 rw [World.cell?_alloc_new]
 simp [hj,i64v]
set_option maxHeartbeats 16000000 in
set_option maxRecDepth 20000 in
theorem odd_any (B g:Nat) (w:World) (h:SrcAt w B g) (id lo hi:Int):Calls Tryz.prog 35 #[.pointer (some ⟨g,0,none⟩),.int .i64 id,.int .i64 lo,.int .i64 hi] w (SrOdd B g w):=by
 have H:=Lh h
 have hr:=MAt.fresh (f:=fun _=>0) w 0 0 0 0 0 0 ByteArray.empty 56 rfl rfl rfl rfl rfl rfl
 obtain ⟨r,hrr⟩:∃ r,r=w.heap.size:=⟨_,rfl⟩
 rw [←hrr] at hr
 have HR:=Lh hr
 have HRR:=Lh hrr
 have HBR:=Lh (show B≤r by have:=h.1;have:=h.2.1;omega)
 have HNR:=Lh (show r≠g by have:=h.2.1;omega)
 have HC:=Lh (message_any B g (w.alloc (.cells #[.int .i64 0,.int .i64 0,.int .i64 0,.int .i64 0,.int .i64 0,.int .i64 0,.string ByteArray.empty] 56)) (h.alloc _) id lo hi)
 clear h hr hrr
 go_enter Tryz.func35,Tryz.ntmps35
 go_wp2_with fail
 refine HC.out.mono ?_
 rintro e w1 ⟨M,rfl,m0,m1,_,⟨m2,m3⟩,_,_,m6,hs,hg⟩
 clear m0 m1
 have HR1:=Lh ((HR.out.grown hg HNR.out).alloc (.cells M.cs 56))
 have HG1:=Lh (only_alloc ((only_alloc (World.grownBy.refl w (some g)) _).trans hg) (.cells M.cs 56))
 have HS1:=Lh (hs.alloc (.cells M.cs 56))
 have HK1:=Lh (MAt.fresh (f:=M.nth) w1 M.id M.rt M.ep M.ct M.gn M.st M.bd 56 rfl rfl rfl rfl rfl rfl)
 obtain ⟨k,hkk⟩:∃ k,k=w1.heap.size:=⟨_,rfl⟩
 have HKK:=Lh hkk
 have HNK:=Lh (show k≠g by have:=hs.2.1;omega)
 have HBK:=Lh (show B≤k by have:=hs.1;have:=hs.2.1;omega)
 have HRK:=Lh (show r≠k by have:=(HR.out.grown hg HNR.out).1;omega)
 have HWK:=Lh (show w.heap.size≤k by have:=((only_alloc (World.grownBy.refl w (some g)) (.cells #[.int .i64 0,.int .i64 0,.int .i64 0,.int .i64 0,.int .i64 0,.int .i64 0,.string ByteArray.empty] 56)).trans hg).size;omega)
 have HM6:=Lh m6
 clear hs hg hkk m6
 go_wp2_with fail
 rw [←HKK.out,←HRR.out]
 rw [←HKK.out] at HK1
 refine (n_any B g _ HS1.out 12 (by omega) (by omega)).mono ?_
 rintro e w3 ⟨y,rfl,y1,y2,hs,hg⟩
 have HS3:=Lh hs
 have HG3:=Lh (HG1.out.trans hg)
 have HK3:=Lh (HK1.out.grown hg HNK.out)
 have HR3:=Lh (HR1.out.grown hg HNR.out)
 clear hs hg y1 y2
 by_cases hy0:y=0
 ·subst hy0
  have HKR:=Lh (HK3.out.alloc (.cells ([0,1073741824,1073741825,-1].map i64v).toArray 3))
  have HRR3:=Lh (HR3.out.alloc (.cells ([0,1073741824,1073741825,-1].map i64v).toArray 3))
  have HGR:=Lh (only_alloc HG3.out (.cells ([0,1073741824,1073741825,-1].map i64v).toArray 3))
  go_wp2_with fail
  refine (pick_any B g (w3.alloc (.cells ([0,1073741824,1073741825,-1].map i64v).toArray 3)) (HS3.out.alloc _) w3.heap.size 4 [0,1073741824,1073741825,-1] rfl (by simp) (by have:=HS3.out.2.1;omega) (by omega) (by omega) (row_cells w3 _ _)).mono ?_
  rintro e w5 ⟨x,rfl,_,hs,hg⟩
  have HS5:=Lh hs
  have HG5:=Lh (HGR.out.trans hg)
  have HK5:=Lh (HKR.out.grown hg HNK.out)
  have HR5:=Lh (HRR3.out.grown hg HNR.out)
  obtain ⟨⟨a0,a1,a2,a3,a4,a5,a6⟩,b0,b1,b2,b3,b4,b5,b6⟩:=HK5.out.facts
  obtain ⟨⟨c0,c1,c2,c3,c4,c5,c6⟩,d0,d1,d2,d3,d4,d5,d6⟩:=HR5.out.facts
  simp only [Msg.nth] at a0 a1 a2 a3 a4 a5
  have hrk:=HRK.out
  have hkr:k≠r:=fun e=>hrk e.symm
  clear hs hg
  go_wp2
  exact bodyPost_ret (v:=Msg.v ⟨x,M.rt,M.ep,M.ct,M.gn,M.st,M.bd⟩) (by simp only [results,Tryz.results35];go_simp <;> rfl) rfl ⟨_,rfl,(by have:=HM6.out;show M.bd.size≤18;omega),src7 (HS5.out.other (p:=⟨k,0,none⟩) HNK.out HBK.out _) HNR.out HBR.out _ _ _ _ _ _ _,only7 (only_set HG5.out (p:=⟨k,0,none⟩) (.inr HWK.out) _) (by rw [HRR.out];exact Nat.le_refl _) _ _ _ _ _ _ _⟩
 by_cases hy1:y=1
 ·subst hy1
  have HKR:=Lh (HK3.out.alloc (.cells ([-1,65535,65536].map i64v).toArray 3))
  have HRR3:=Lh (HR3.out.alloc (.cells ([-1,65535,65536].map i64v).toArray 3))
  have HGR:=Lh (only_alloc HG3.out (.cells ([-1,65535,65536].map i64v).toArray 3))
  go_wp2_with fail
  refine (pick_any B g (w3.alloc (.cells ([-1,65535,65536].map i64v).toArray 3)) (HS3.out.alloc _) w3.heap.size 3 [-1,65535,65536] rfl (by simp) (by have:=HS3.out.2.1;omega) (by omega) (by omega) (row_cells w3 _ _)).mono ?_
  rintro e w5 ⟨x,rfl,_,hs,hg⟩
  have HS5:=Lh hs
  have HG5:=Lh (HGR.out.trans hg)
  have HK5:=Lh (HKR.out.grown hg HNK.out)
  have HR5:=Lh (HRR3.out.grown hg HNR.out)
  obtain ⟨⟨a0,a1,a2,a3,a4,a5,a6⟩,b0,b1,b2,b3,b4,b5,b6⟩:=HK5.out.facts
  obtain ⟨⟨c0,c1,c2,c3,c4,c5,c6⟩,d0,d1,d2,d3,d4,d5,d6⟩:=HR5.out.facts
  simp only [Msg.nth] at a0 a1 a2 a3 a4 a5
  have hrk:=HRK.out
  have hkr:k≠r:=fun e=>hrk e.symm
  clear hs hg
  go_wp2
  exact bodyPost_ret (v:=Msg.v ⟨M.id,x,M.ep,M.ct,M.gn,M.st,M.bd⟩) (by simp only [results,Tryz.results35];go_simp <;> rfl) rfl ⟨_,rfl,(by have:=HM6.out;show M.bd.size≤18;omega),src7 (HS5.out.other (p:=⟨k,1,none⟩) HNK.out HBK.out _) HNR.out HBR.out _ _ _ _ _ _ _,only7 (only_set HG5.out (p:=⟨k,1,none⟩) (.inr HWK.out) _) (by rw [HRR.out];exact Nat.le_refl _) _ _ _ _ _ _ _⟩
 by_cases hy2:y=2
 ·subst hy2
  have HKR:=Lh (HK3.out.alloc (.cells ([M.ct,M.ct - 1,65536,65537].map i64v).toArray 3))
  have HRR3:=Lh (HR3.out.alloc (.cells ([M.ct,M.ct - 1,65536,65537].map i64v).toArray 3))
  have HGR:=Lh (only_alloc HG3.out (.cells ([M.ct,M.ct - 1,65536,65537].map i64v).toArray 3))
  obtain ⟨⟨p0,p1,p2,p3,p4,p5,p6⟩,o0,o1,o2,o3,o4,o5,o6⟩:=HK3.out.facts
  simp only [Msg.nth] at p0 p1 p2 p3 p4 p5
  go_wp2_with fail
  refine (pick_any B g (w3.alloc (.cells ([M.ct,M.ct - 1,65536,65537].map i64v).toArray 3)) (HS3.out.alloc _) w3.heap.size 4 [M.ct,M.ct - 1,65536,65537] rfl (by simp) (by have:=HS3.out.2.1;omega) (by omega) (by omega) (row_cells w3 _ _)).mono ?_
  clear p0 p1 p2 p3 p4 p5 p6 o0 o1 o2 o3 o4 o5 o6
  rintro e w5 ⟨x,rfl,_,hs,hg⟩
  have HS5:=Lh hs
  have HG5:=Lh (HGR.out.trans hg)
  have HK5:=Lh (HKR.out.grown hg HNK.out)
  have HR5:=Lh (HRR3.out.grown hg HNR.out)
  obtain ⟨⟨a0,a1,a2,a3,a4,a5,a6⟩,b0,b1,b2,b3,b4,b5,b6⟩:=HK5.out.facts
  obtain ⟨⟨c0,c1,c2,c3,c4,c5,c6⟩,d0,d1,d2,d3,d4,d5,d6⟩:=HR5.out.facts
  simp only [Msg.nth] at a0 a1 a2 a3 a4 a5
  have hrk:=HRK.out
  have hkr:k≠r:=fun e=>hrk e.symm
  clear hs hg
  go_wp2
  exact bodyPost_ret (v:=Msg.v ⟨M.id,M.rt,M.ep,M.ct,x,M.st,M.bd⟩) (by simp only [results,Tryz.results35];go_simp <;> rfl) rfl ⟨_,rfl,(by have:=HM6.out;show M.bd.size≤18;omega),src7 (HS5.out.other (p:=⟨k,4,none⟩) HNK.out HBK.out _) HNR.out HBR.out _ _ _ _ _ _ _,only7 (only_set HG5.out (p:=⟨k,4,none⟩) (.inr HWK.out) _) (by rw [HRR.out];exact Nat.le_refl _) _ _ _ _ _ _ _⟩
 by_cases hy3:y=3
 ·subst hy3
  have HKR:=Lh (HK3.out.alloc (.cells ([8,9,-1].map i64v).toArray 3))
  have HRR3:=Lh (HR3.out.alloc (.cells ([8,9,-1].map i64v).toArray 3))
  have HGR:=Lh (only_alloc HG3.out (.cells ([8,9,-1].map i64v).toArray 3))
  go_wp2_with fail
  refine (pick_any B g (w3.alloc (.cells ([8,9,-1].map i64v).toArray 3)) (HS3.out.alloc _) w3.heap.size 3 [8,9,-1] rfl (by simp) (by have:=HS3.out.2.1;omega) (by omega) (by omega) (row_cells w3 _ _)).mono ?_
  rintro e w5 ⟨x,rfl,_,hs,hg⟩
  have HS5:=Lh hs
  have HG5:=Lh (HGR.out.trans hg)
  have HK5:=Lh (HKR.out.grown hg HNK.out)
  have HR5:=Lh (HRR3.out.grown hg HNR.out)
  obtain ⟨⟨a0,a1,a2,a3,a4,a5,a6⟩,b0,b1,b2,b3,b4,b5,b6⟩:=HK5.out.facts
  obtain ⟨⟨c0,c1,c2,c3,c4,c5,c6⟩,d0,d1,d2,d3,d4,d5,d6⟩:=HR5.out.facts
  simp only [Msg.nth] at a0 a1 a2 a3 a4 a5
  have hrk:=HRK.out
  have hkr:k≠r:=fun e=>hrk e.symm
  clear hs hg
  go_wp2
  exact bodyPost_ret (v:=Msg.v ⟨M.id,M.rt,M.ep,x,max M.gn x,M.st,M.bd⟩) (by simp only [results,Tryz.results35];go_simp <;> rfl) rfl ⟨_,rfl,(by have:=HM6.out;show M.bd.size≤18;omega),src7 ((HS5.out.other (p:=⟨k,3,none⟩) HNK.out HBK.out _).other (p:=⟨k,4,none⟩) HNK.out HBK.out _) HNR.out HBR.out _ _ _ _ _ _ _,only7 (only_set (only_set HG5.out (p:=⟨k,3,none⟩) (.inr HWK.out) _) (p:=⟨k,4,none⟩) (.inr HWK.out) _) (by rw [HRR.out];exact Nat.le_refl _) _ _ _ _ _ _ _⟩
 by_cases hy5:y=5
 ·subst hy5
  have HKR:=Lh (HK3.out.alloc (.cells ([-1,1073741824,1073741825].map i64v).toArray 3))
  have HRR3:=Lh (HR3.out.alloc (.cells ([-1,1073741824,1073741825].map i64v).toArray 3))
  have HGR:=Lh (only_alloc HG3.out (.cells ([-1,1073741824,1073741825].map i64v).toArray 3))
  go_wp2_with fail
  refine (pick_any B g (w3.alloc (.cells ([-1,1073741824,1073741825].map i64v).toArray 3)) (HS3.out.alloc _) w3.heap.size 3 [-1,1073741824,1073741825] rfl (by simp) (by have:=HS3.out.2.1;omega) (by omega) (by omega) (row_cells w3 _ _)).mono ?_
  rintro e w5 ⟨x,rfl,_,hs,hg⟩
  have HS5:=Lh hs
  have HG5:=Lh (HGR.out.trans hg)
  have HK5:=Lh (HKR.out.grown hg HNK.out)
  have HR5:=Lh (HRR3.out.grown hg HNR.out)
  obtain ⟨⟨a0,a1,a2,a3,a4,a5,a6⟩,b0,b1,b2,b3,b4,b5,b6⟩:=HK5.out.facts
  obtain ⟨⟨c0,c1,c2,c3,c4,c5,c6⟩,d0,d1,d2,d3,d4,d5,d6⟩:=HR5.out.facts
  simp only [Msg.nth] at a0 a1 a2 a3 a4 a5
  have hrk:=HRK.out
  have hkr:k≠r:=fun e=>hrk e.symm
  clear hs hg
  go_wp2
  exact bodyPost_ret (v:=Msg.v ⟨M.id,M.rt,M.ep,M.ct,M.gn,x,M.bd⟩) (by simp only [results,Tryz.results35];go_simp <;> rfl) rfl ⟨_,rfl,(by have:=HM6.out;show M.bd.size≤18;omega),src7 (HS5.out.other (p:=⟨k,5,none⟩) HNK.out HBK.out _) HNR.out HBR.out _ _ _ _ _ _ _,only7 (only_set HG5.out (p:=⟨k,5,none⟩) (.inr HWK.out) _) (by rw [HRR.out];exact Nat.le_refl _) _ _ _ _ _ _ _⟩
 by_cases hy6:y=6
 ·subst hy6
  have HKR:=Lh (HK3.out.alloc (.cells ([-1,65536,65537].map i64v).toArray 3))
  have HRR3:=Lh (HR3.out.alloc (.cells ([-1,65536,65537].map i64v).toArray 3))
  have HGR:=Lh (only_alloc HG3.out (.cells ([-1,65536,65537].map i64v).toArray 3))
  go_wp2_with fail
  refine (pick_any B g (w3.alloc (.cells ([-1,65536,65537].map i64v).toArray 3)) (HS3.out.alloc _) w3.heap.size 3 [-1,65536,65537] rfl (by simp) (by have:=HS3.out.2.1;omega) (by omega) (by omega) (row_cells w3 _ _)).mono ?_
  rintro e w5 ⟨x,rfl,_,hs,hg⟩
  have HS5:=Lh hs
  have HG5:=Lh (HGR.out.trans hg)
  have HK5:=Lh (HKR.out.grown hg HNK.out)
  have HR5:=Lh (HRR3.out.grown hg HNR.out)
  obtain ⟨⟨a0,a1,a2,a3,a4,a5,a6⟩,b0,b1,b2,b3,b4,b5,b6⟩:=HK5.out.facts
  obtain ⟨⟨c0,c1,c2,c3,c4,c5,c6⟩,d0,d1,d2,d3,d4,d5,d6⟩:=HR5.out.facts
  simp only [Msg.nth] at a0 a1 a2 a3 a4 a5
  have hrk:=HRK.out
  have hkr:k≠r:=fun e=>hrk e.symm
  clear hs hg
  go_wp2
  exact bodyPost_ret (v:=Msg.v ⟨M.id,M.rt,x,M.ct,M.gn,M.st,M.bd⟩) (by simp only [results,Tryz.results35];go_simp <;> rfl) rfl ⟨_,rfl,(by have:=HM6.out;show M.bd.size≤18;omega),src7 (HS5.out.other (p:=⟨k,2,none⟩) HNK.out HBK.out _) HNR.out HBR.out _ _ _ _ _ _ _,only7 (only_set HG5.out (p:=⟨k,2,none⟩) (.inr HWK.out) _) (by rw [HRR.out];exact Nat.le_refl _) _ _ _ _ _ _ _⟩
 by_cases hy4:y=4
 ·subst hy4
  have hk6:=HK3.out.2.2.1
  have hf6:=HK3.out.2.2.2 6 (by omega)
  go_wp2_with fail
  go_region_with ((go_at_call 88;refine (body_any B g _ (SrcAt.drew HS3.out)).mono ?_;rintro e w5 ⟨s,rfl,s1,hs,hg⟩;have HS5:=Lh hs;have HG5:=Lh (HG3.out.trans (gdrew hg));have HK5:=Lh (HK3.out.grown (gdrew hg) HNK.out);have HR5:=Lh (HR3.out.grown (gdrew hg) HNR.out);have g6:=HK5.out.2.2.1;have f6:=HK5.out.2.2.2 6 (by omega);clear hs hg))
  have HZ:=Lh (show (ByteArray.extract ⟨#[48,49,50,51,52,53,54,55,56,57,97,98,99,100,101,102]⟩ 0 15++s).size≤18 by
   rw [ByteArray.size_append,show (ByteArray.extract ⟨#[48,49,50,51,52,53,54,55,56,57,97,98,99,100,101,102]⟩ 0 15).size=15 by decide +kernel];omega)
  generalize ByteArray.extract ⟨#[48,49,50,51,52,53,54,55,56,57,97,98,99,100,101,102]⟩ 0 15++s=bd at*
  clear g6 f6 hk6 hf6
  obtain ⟨⟨a0,a1,a2,a3,a4,a5,a6⟩,b0,b1,b2,b3,b4,b5,b6⟩:=HK5.out.facts
  obtain ⟨⟨c0,c1,c2,c3,c4,c5,c6⟩,d0,d1,d2,d3,d4,d5,d6⟩:=HR5.out.facts
  simp only [Msg.nth] at a0 a1 a2 a3 a4 a5
  have hrk:=HRK.out
  have hkr:k≠r:=fun e=>hrk e.symm
  go_wp2
  exact bodyPost_ret (v:=Msg.v ⟨M.id,M.rt,M.ep,M.ct,M.gn,M.st,bd⟩) (by simp only [results,Tryz.results35];go_simp <;> rfl) rfl ⟨_,rfl,HZ.out,src7 (HS5.out.other (p:=⟨k,6,none⟩) HNK.out HBK.out _) HNR.out HBR.out _ _ _ _ _ _ _,only7 (only_set HG5.out (p:=⟨k,6,none⟩) (.inr HWK.out) _) (by rw [HRR.out];exact Nat.le_refl _) _ _ _ _ _ _ _⟩
 have hz0:(y==0)=false:=beq_eq_false_iff_ne.2 hy0
 have hz1:(y==1)=false:=beq_eq_false_iff_ne.2 hy1
 have hz2:(y==2)=false:=beq_eq_false_iff_ne.2 hy2
 have hz3:(y==3)=false:=beq_eq_false_iff_ne.2 hy3
 have hz4:(y==4)=false:=beq_eq_false_iff_ne.2 hy4
 have hz5:(y==5)=false:=beq_eq_false_iff_ne.2 hy5
 have hz6:(y==6)=false:=beq_eq_false_iff_ne.2 hy6
 clear hy0 hy1 hy2 hy3 hy4 hy5 hy6
 obtain ⟨⟨a0,a1,a2,a3,a4,a5,a6⟩,b0,b1,b2,b3,b4,b5,b6⟩:=HK3.out.facts
 obtain ⟨⟨c0,c1,c2,c3,c4,c5,c6⟩,d0,d1,d2,d3,d4,d5,d6⟩:=HR3.out.facts
 simp only [Msg.nth] at a0 a1 a2 a3 a4 a5
 have hrk:=HRK.out
 have hkr:k≠r:=fun e=>hrk e.symm
 go_wp2
 exact bodyPost_ret (v:=Msg.v M) (by simp only [results,Tryz.results35];go_simp <;> rfl) rfl ⟨_,rfl,(by have:=HM6.out;omega),src7 HS3.out HNR.out HBR.out _ _ _ _ _ _ _,only7 HG3.out (by rw [HRR.out];exact Nat.le_refl _) _ _ _ _ _ _ _⟩
end Go.Proofs.YtncgbldcjfbknaaGreat
