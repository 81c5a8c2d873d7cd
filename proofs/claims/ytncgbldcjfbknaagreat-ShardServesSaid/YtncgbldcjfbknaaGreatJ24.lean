/- What is proved here: shard.pull of what Take wants, by a contract; lease.Extend by a contract; slices.Insert of one lease by a contract; lease.Grant by a contract; shard.Take by a contract. -/
import Derived.Test.YtncgbldcjfbknaaGreatJ23
import Derived.Lib.Overlaps
import Derived.Laws.Externs
namespace Go.Proofs.YtncgbldcjfbknaaGreat
open Go.RowKit
set_option linter.unusedVariables false
theorem own_end {w1:World} {base g cap:Nat} {T:List Msg} {X:Msg} (hown:w1.ownsRow base 56 7 (.slice (some ⟨g,0,none⟩) (T.length+1) cap) (T.length+1) (lcs T++X.l)):w1.ownsRow base 56 7 (.slice (some ⟨g,0,none⟩) (T.length+1) cap) (T++[X]).length (lcs (T++[X])):=by
 have hM1:lcs [X]=X.l:=by simp [lcs]
 rw [lcs_app,hM1,List.length_append]
 exact hown
theorem z_out {w W:World} {p r B:Nat} {S:Sh} {D:Sx} {A0:Option Addr} {c0:Nat} {L T:List Msg} {lv:Value} (h:PullAt w p r B S D A0 c0 L lv T W):SLs w S T (.returned (.tuple #[sv S D,lv])) (set8s W r S D):=by
 have hne:=h.ne
 have hold:=h.sa.old
 obtain ⟨A,c,rfl⟩:=own_form h.own
 refine ⟨D,A,c,rfl,h.dr.low (by omega),SR.sets (h.dr.off (Nat.lt_succ_self r)) (S.l8 D) 0 W h.sa.sr,nwv_of (nwv_own h.own (by omega)),?_,set8s_below (by omega) h.sa.bel S D⟩
 have hw:=own_sets (r:=r) (show r<B by omega) (S.l8 D) 0 W h.own
 rw [set8s_eq]
 exact Ls.of_own hw
set_option maxHeartbeats 8000000 in
set_option maxRecDepth 20000 in
theorem spull_any (V:Vs) (k:V.Ok) (D:Sx) (mx:Nat) (b1 b2:Nat) (ep lim:Int) (w:World) (hs:SR w w.heap.size V.sh D) (hc:CapAt b1 b2 ep lim w) (h12:mx≤1000) :
  Calls Tryz.prog 45 #[sv V.sh D,.int .i64 (mx:Int),.func (.func 46) #[] #[.pointer (some ⟨b1,0,none⟩),.pointer (some ⟨b2,0,none⟩)]] w (SLs w (V.ring (pk mx (fun M=>rvF M ep lim) V.L).2).sh (pk mx (fun M=>rvF M ep lim) V.L).1):=by
 obtain ⟨ff,hff⟩:∃ ff:Msg→Bool,ff=(fun M=>rvF M ep lim):=⟨_,rfl⟩
 have HT:=Lh (fun M W (h:CapAt b1 b2 ep lim W)=>show Calls Tryz.prog 46 #[M.v,.pointer (some ⟨b1,0,none⟩),.pointer (some ⟨b2,0,none⟩)] W fun e w'=>e=.returned (.bool (ff M))∧Below W.heap.size W w' by rw [hff];exact take1_any b1 b2 ep lim M W h)
 rw [←hff]
 clear hff
 obtain ⟨i0,hi0,hz0⟩:=Option.map_eq_some_iff.1 info_msg
 simp only [Prod.mk.injEq] at hz0
 have HI:=Lh hi0
 have HZ:=Lh hz0
 have HLN:=Lh (show V.L.length≤12 from Nat.le_trans k.lenL k.n2)
 have HLS:=Lh k.ls
 have HS0:V.sh=(V.ring (pkL mx ff V.L 0)).sh:=by rw [pkL_zero];rfl
 have hn1:1≤V.sh.cs.length:=by rw [show V.sh.cs.length=V.n from fil_len _ _ _];exact k.n1
 have hn2:V.sh.cs.length≤12:=by rw [show V.sh.cs.length=V.n from fil_len _ _ _];exact k.n2
 have hn3:V.sh.l.length≤12:=k.tb.len
 have hn4:V.sh.h.length≤12:=by have:=k.tb.hlen;show V.h.length≤12;have:=k.tb.len;omega
 have HGL:=Lh (fun p D W (q:SAt w p V.sh D W)=>glist_any D.A V.sh.cs.length D.c V.sh.cs V.sh.hd V.sh.sz W q.sr.ls)
 have HLS' : lsF V.sh.cs V.sh.hd V.sh.sz=V.L:=k.ls
 rw [HLS'] at HGL
 have HRM:=Lh (fun i (hi:i<V.L.length) h1 h2 S S' hS hS'=>pull_rm (mx:=mx) (f:=ff) (i:=i) k hi h1 h2 (S:=S) (S':=S') hS hS')
 have HCC:=Lh hc
 have HPN:=Lh (fun i (hi:i<V.L.length) h=>pk_no (mx:=mx) (p:=ff) (L:=V.L) hi h)
 have HPY:=Lh (fun i (hi:i<V.L.length) h1 h2=>pk_yes (mx:=mx) (p:=ff) (L:=V.L) hi h1 h2)
 have HLN2:=Lh (fun i (hi:i<V.L.length) h=>pkL_no (mx:=mx) (p:=ff) (L:=V.L) hi h)
 have HPE:Hid (pk mx ff V.L=pk mx ff (V.L.take V.L.length)):=Lh (by rw [List.take_length])
 have HPL:Hid (pkL mx ff V.L V.L.length=(pk mx ff V.L).2):=Lh pkL_end
 obtain ⟨S,hS⟩:∃ S,S=V.sh:=⟨_,rfl⟩
 rw [←hS] at hs hn1 hn2 hn3 hn4 HGL HS0
 rw [←hS]
 have HS0':=Lh HS0
 have HCL:=Lh (fun p D W (q:SAt w p S D W)=>sclone_any S D W q.sr hn1 (by omega) (by omega) (by omega))
 have H0:=Lh ((SAt.start 33 hs).alloc (.cells #[.bool false,.int .i64 0,.int .i64 0,.slice none 0 0,.int .i64 0,.int .i64 0,.slice none 0 0,.slice none 0 0] 33))
 have R0:=Lh (SB8.zero (w.alloc (.cells #[.bool S.lv,.int .i64 S.lo,.int .i64 S.hi,.slice D.A S.cs.length D.c,.int .i64 S.hd,.int .i64 S.sz,.slice D.A2 S.l.length D.c2,.slice D.A3 S.h.length D.c3] 33)) 33)
 have hmf:∀ (fn:Fn) (first cap:Array Value) (w:World),(Instr.makeFunc fn first cap).run Tryz.prog w=.ok (.func fn first cap) w:=fun _ _ _ _=>rfl
 clear hS hs k hc HLS HLS' HS0 hn1 hn2 hn3 hn4 hi0 hz0
 obtain ⟨L,hL⟩:∃ L,L=V.L:=⟨_,rfl⟩
 rw [←hL] at HLN HGL HRM HPN HPY HLN2 HPE HPL HS0' ⊢
 clear hL
 have hl64:L.length≤9223372036854775807:=by have:=HLN.out;omega
 go_enter Tryz.func45,Tryz.ntmps45
 obtain ⟨t0,t1,t2,t3,t4,t5,t6,t7,tl⟩:=H0.out.s8.facts
 go_wp2_with fail
 clear t0 t1 t2 t3 t4 t5 t6 t7 tl
 obtain ⟨p,hp⟩:∃ p,p=w.heap.size:=⟨_,rfl⟩
 obtain ⟨r,hr⟩:∃ r,r=w.heap.size+1:=⟨_,rfl⟩
 have e1:(w.alloc (.cells #[.bool S.lv,.int .i64 S.lo,.int .i64 S.hi,.slice D.A S.cs.length D.c,.int .i64 S.hd,.int .i64 S.sz,.slice D.A2 S.l.length D.c2,.slice D.A3 S.h.length D.c3] 33)).heap.size=r:=by rw [hr];simp
 rw [e1] at R0
 have HPR:=Lh (show ¬p=r∧¬r=p∧w.heap.size≤p∧p<r by omega)
 rw [←hr,←hp]
 rw [←hp] at H0
 clear e1 hp hr
 generalize ((w.alloc (.cells #[.bool S.lv,.int .i64 S.lo,.int .i64 S.hi,.slice D.A S.cs.length D.c,.int .i64 S.hd,.int .i64 S.sz,.slice D.A2 S.l.length D.c2,.slice D.A3 S.h.length D.c3] 33)).alloc (.cells #[.bool false,.int .i64 0,.int .i64 0,.slice none 0 0,.int .i64 0,.int .i64 0,.slice none 0 0,.slice none 0 0] 33))=w1 at*
 refine (HCL.out _ _ _ H0.out).mono ?_
 rintro e w2 ⟨D2,rfl,hn2,hr2,hb⟩
 have H1:=Lh (H0.out.below hb)
 have H2:=Lh (show SAt w p S D2 ((((((((w2.setCell ⟨p,0,none⟩ (.bool S.lv)).setCell ⟨p,1,none⟩ (.int .i64 S.lo)).setCell ⟨p,2,none⟩ (.int .i64 S.hi)).setCell ⟨p,3,none⟩ (.slice D2.A S.cs.length D2.c)).setCell ⟨p,4,none⟩ (.int .i64 S.hd)).setCell ⟨p,5,none⟩ (.int .i64 S.sz)).setCell ⟨p,6,none⟩ (.slice D2.A2 S.l.length D2.c2)).setCell ⟨p,7,none⟩ (.slice D2.A3 S.h.length D2.c3)) from H1.out.put hr2 (hn2.off H0.out.lt))
 have R2:=Lh (show SB8 ((((((((w2.setCell ⟨p,0,none⟩ (.bool S.lv)).setCell ⟨p,1,none⟩ (.int .i64 S.lo)).setCell ⟨p,2,none⟩ (.int .i64 S.hi)).setCell ⟨p,3,none⟩ (.slice D2.A S.cs.length D2.c)).setCell ⟨p,4,none⟩ (.int .i64 S.hd)).setCell ⟨p,5,none⟩ (.int .i64 S.sz)).setCell ⟨p,6,none⟩ (.slice D2.A2 S.l.length D2.c2)).setCell ⟨p,7,none⟩ (.slice D2.A3 S.h.length D2.c3)) r zS zX from (R0.out.up hb).put_far HPR.out.2.1 S D2)
 have N2:=Lh (show D2.nw (r+1) from hn2.low R0.out.lt)
 clear hn2 hr2 hb
 obtain ⟨⟨t0,t1,t2,t3,t4,t5,t6,t7,tl⟩,⟨f0,f1,f2,f3,f4,f5,f6,f7⟩⟩:=H1.out.s8.all
 go_wp2_with fail
 clear t0 t1 t2 t3 t4 t5 t6 t7 tl f0 f1 f2 f3 f4 f5 f6 f7
 generalize ((((((((w2.setCell ⟨p,0,none⟩ (.bool S.lv)).setCell ⟨p,1,none⟩ (.int .i64 S.lo)).setCell ⟨p,2,none⟩ (.int .i64 S.hi)).setCell ⟨p,3,none⟩ (.slice D2.A S.cs.length D2.c)).setCell ⟨p,4,none⟩ (.int .i64 S.hd)).setCell ⟨p,5,none⟩ (.int .i64 S.sz)).setCell ⟨p,6,none⟩ (.slice D2.A2 S.l.length D2.c2)).setCell ⟨p,7,none⟩ (.slice D2.A3 S.h.length D2.c3))=w3 at*
 refine (HGL.out _ _ _ H2.out).mono ?_
 rintro e w4 ⟨v4,rfl,hn4,hl4,hb⟩
 obtain ⟨A0,c0,rfl,_,_⟩:=hl4.form
 have HP0:=Lh (show PullAt w p r w4.heap.size S D2 A0 c0 L (.slice none 0 0) [] w4 from
  ⟨H2.out.below hb,R2.out.up hb,hl4,offb_nw (nwv_of hn4) H2.out.lt,World.ownsRow_nil _ _ _ _,fun q e=>by simp [Value.ownBlock] at e,N2.out,HPR.out.2.2.2,(R2.out.up hb).lt,Nat.le_refl _⟩)
 clear hn4 hl4 hb H0 R0 H1 H2 R2 N2
 go_wp2
 obtain ⟨B,hB⟩:∃ B,B=w4.heap.size:=⟨_,rfl⟩
 rw [←hB] at HP0
 clear hB
 go_loopw [8,17] (fun lv i wr=>∃ (k:Nat) (S:Sh) (D:Sx),k≤L.length∧i=.int .i64 k∧Hid (S=(V.ring (pkL mx ff L k)).sh)∧Hid (PullAt w p r B S D A0 c0 L lv (pk mx ff (L.take k)).1 wr)) (fun _ i _=>L.length - (intOf i).toNat)
 case atStart=>exact ⟨0,S,D2,Nat.zero_le _,rfl,HS0',HP0⟩
 case round=>
  clear HP0 HS0'
  obtain ⟨k,S,D,hk,rfl,HS,HP⟩:=hrel
  by_cases hlt:k<L.length
  ·obtain ⟨b,o,rfl,hbl,c0',c1',c2',c3',c4',c5',c6'⟩:=HP.out.l0.at_ hlt
   have HTL:=Lh (show (pk mx ff (L.take k)).1.length≤12 by
    have h1:=(pk_sub mx ff (L.take k)).2.1.length_le
    have h2:=HLN.out
    simp at h1;omega)
   obtain ⟨A5,cc5,rfl⟩:=own_form HP.out.own
   have HPN':=Lh (HPN.out k hlt)
   have HPY':=Lh (HPY.out k hlt)
   have HLN':=Lh (HLN2.out k hlt)
   have HRM':=Lh (HRM.out k hlt)
   have HTX:=Lh (fun W (h:CapAt b1 b2 ep lim W)=>HT.out L[k] W h)
   clear HPN HPY HLN2 HRM HT
   generalize (pk mx ff (L.take k)).1=T at*
   generalize L[k]=X at*
   have HPA:=Lh (HP.out.below ((Below.refl _ _).alloc (Nat.le_refl _) (.cells #[.int .i64 X.id,.int .i64 X.rt,.int .i64 X.ep,.int .i64 X.ct,.int .i64 X.gn,.int .i64 X.st,.string X.bd] 56)))
   have HMX:=Lh (MBx.start wr X 56)
   by_cases hmx:T.length<mx
   ·have hmx' : (T.length:Int)<(mx:Int):=by omega
    cases hf:ff X with
    | false=>
     have HPK:=Lh (HPN'.out (fun h=>by rw [hf] at h;exact absurd h.2 (by decide)))
     have HLK:=Lh (HLN'.out (fun h=>by rw [hf] at h;exact absurd h.2 (by decide)))
     rw [hf] at HTX
     clear hf HPN' HPY' HLN' HRM'
     go_wp2_with fail
     refine (HTX.out _ (HCC.out.below HPA.out.sa.bel)).mono ?_
     rintro e w5 ⟨rfl,hb⟩
     have HP5:=Lh (HPA.out.below hb)
     clear hb
     go_wp2
     go_roundw
     case rel=>exact ⟨k+1,S,D,by omega,by go_num,Lh (by rw [HLK.out];exact HS.out),by rw [HPK.out];exact HP5⟩
     case measure=>simp [intOf];omega
    | true=>
     have HPK:=Lh (HPY'.out hmx hf)
     obtain ⟨S',hS'⟩:∃ S',S' = (V.ring (pkL mx ff L (k+1))).sh:=⟨_,rfl⟩
     have HRK:=Lh (HRM'.out hmx hf S S' HS.out hS')
     have HSK:=Lh hS'
     have HRE:=Lh (fun D W (q:SAt w p S D W)=>remove_any D.A S.cs.length D.c S.cs S.hd S.sz X.id W q.sr.ls)
     rw [hf] at HTX
     clear hf HPN' HPY' HLN' HRM' hS'
     generalize ifE (rmE S.cs S.hd S.sz X.id) S.hd=hd at*
     generalize ifE (rmE S.cs S.hd S.sz X.id) (S.sz - 1)=sz at*
     generalize rmC S.cs S.hd S.sz X.id=cs at*
     generalize rmM S.cs S.hd S.sz X.id=rM at*
     generalize rmE S.cs S.hd S.sz X.id=rE at*
     go_wp2_with fail
     refine (HTX.out _ (HCC.out.below HPA.out.sa.bel)).mono ?_
     rintro e w5 ⟨rfl,hb⟩
     have HP5:=Lh (HPA.out.below hb)
     have HM5:=Lh (HMX.out.up hb)
     clear hb
     obtain ⟨⟨t0,t1,t2,t3,t4,t5,t6,t7,tl⟩,⟨f0,f1,f2,f3,f4,f5,f6,f7⟩⟩:=HP5.out.sa.s8.all
     obtain ⟨v0,v1,v2,v3,v4,v5,v6⟩:=HM5.out.m7
     have vl:=HM5.out.lt
     go_wp2_with fail
     clear t0 t1 t2 t3 t4 t5 t6 t7 tl f0 f1 f2 f3 f4 f5 f6 f7 v0 v1 v2 v3 v4 v5 v6 vl
     refine (HRE.out _ _ HP5.out.sa).mono ?_
     rintro e w6 ⟨A6,c6,rfl,hn6,hl6,hb⟩
     have HP6:=Lh (HP5.out.below hb)
     have HM6:=Lh (HM5.out.up hb)
     have HP7:=Lh (show PullAt w p r B S' ⟨A6,c6,D.A2,D.c2,D.A3,D.c3⟩ (some ⟨b,o,none⟩) c0 L (.slice A5 T.length cc5) T (((w6.setCell ⟨p,3,none⟩ (.slice A6 cs.length c6)).setCell ⟨p,4,none⟩ (.int .i64 hd)).setCell ⟨p,5,none⟩ (.int .i64 sz)) from by
      rw [HRK.out]
      exact HP6.out.setRing hd sz hl6 hn6 HP5.out.ne.2.2 (fun q e=>(HP5.out.own.lt q e).2))
     have HP8:=Lh (HP7.out.below ((Below.refl _ _).alloc (Nat.le_refl _) (.cells #[.int .i64 X.id,.int .i64 X.rt,.int .i64 X.ep,.int .i64 X.ct,.int .i64 X.gn,.int .i64 X.st,.string X.bd] 56)))
     have HCX:=Lh (msg_row (((w6.setCell ⟨p,3,none⟩ (.slice A6 cs.length c6)).setCell ⟨p,4,none⟩ (.int .i64 hd)).setCell ⟨p,5,none⟩ (.int .i64 sz)) X 56)
     have HYP:=Lh (show ¬wr.heap.size=p∧¬p=wr.heap.size by have h1:=HP.out.ne;omega)
     clear hn6 hl6 hb
     obtain ⟨⟨t0,t1,t2,t3,t4,t5,t6,t7,tl⟩,⟨f0,f1,f2,f3,f4,f5,f6,f7⟩⟩:=HP6.out.sa.s8.all
     obtain ⟨v0,v1,v2,v3,v4,v5,v6⟩:=HM6.out.m7
     have vl:=HM6.out.lt
     obtain ⟨hyp,hpy⟩:=HYP.out
     go_wp2_with (at_builtin;refine wpList_append_lies _ rfl (.tmp 40) (.tmp 42) 25 rfl B 56 i0 _ 7 64 Tryz.underlying25 HI.out HZ.out.1 HZ.out.2.1 HZ.out.2.2 rfl (by omega) (.slice A5 T.length cc5) T.length (lcs T) rfl HP8.out.own ⟨w6.heap.size,0,none⟩ 1 1 X.l rfl (by simp [Msg.l_len]) (fun j u hu=>by have:=HCX.out j u hu;simpa using this) X.l_one (by omega) (by have:=HTL.out;unfold maxLen;omega) (by have:=HTL.out;omega) HP8.out.ne.2.2 _ rfl ?_;intro g cap w8 hown hgrow hat hglt)
     have HP9:=Lh (HP8.out.app (own_end hown) hgrow (fun q e=>by
      rcases hat with h | h
      ·left;rw [h];simpa [Value.ownBlock] using e
      ·right;simp only [Value.ownBlock] at e;injection e with e;rw [←e,h];exact Nat.le_refl _))
     clear hown hgrow hat hglt t0 t1 t2 t3 t4 t5 t6 t7 tl f0 f1 f2 f3 f4 f5 f6 f7 v0 v1 v2 v3 v4 v5 v6 vl
     go_wp2
     go_roundw
     case rel=>exact ⟨k+1,S',⟨A6,c6,D.A2,D.c2,D.A3,D.c3⟩,by omega,by go_num,HSK,by rw [HPK.out];exact HP9⟩
     case measure=>simp [intOf];omega
   ·have hmx' : ¬(T.length:Int)<(mx:Int):=by omega
    have HPK:=Lh (HPN'.out (fun h=>hmx h.1))
    have HLK:=Lh (HLN'.out (fun h=>hmx h.1))
    clear hmx HPN' HPY' HLN' HRM'
    go_wp2
    go_roundw
    case rel=>exact ⟨k+1,S,D,by omega,by go_num,Lh (by rw [HLK.out];exact HS.out),by rw [HPK.out];exact HPA⟩
    case measure=>simp [intOf];omega
  ·obtain rfl:k=L.length:=by omega
   obtain ⟨A5,cc5,rfl⟩:=own_form HP.out.own
   have HF:=Lh (show SLs w (V.ring (pk mx ff L).2).sh (pk mx ff L).1 (.returned (.tuple #[sv S D,.slice A5 (pk mx ff (L.take L.length)).1.length cc5])) (set8s wr r S D) from by
    have e:(pk mx ff (L.take L.length)).1=(pk mx ff L).1:=by rw [List.take_length]
    rw [←HPL.out,←HS.out,←e]
    exact z_out HP.out)
   obtain ⟨⟨t0,t1,t2,t3,t4,t5,t6,t7,tl⟩,⟨f0,f1,f2,f3,f4,f5,f6,f7⟩⟩:=HP.out.sa.s8.all
   obtain ⟨⟨r0,r1,r2,r3,r4,r5,r6,r7,rl⟩,⟨g0,g1,g2,g3,g4,g5,g6,g7⟩⟩:=HP.out.rs.all
   obtain ⟨hpr,hrp,-,-⟩:=HPR.out
   go_wp2
   exact bodyPost_ret (v:=.tuple #[sv S D,.slice A5 (pk mx ff (L.take L.length)).1.length cc5]) (by simp only [results,Tryz.results45];go_simp <;> rfl) rfl HF.out
theorem ERow.of_own {W:World} {base q n cap:Nat} {e:TypeId} {l:List Le} (h:W.ownsRow base e 8 (.slice (some ⟨q,0,none⟩) n cap) n (ecs l)):ERow W q n (lg l):=by
 refine ⟨?_,fun k hk j hj=>?_,fun j=>World.ownsRow.frozenAt h j⟩
 ·rcases h.2 with ⟨hv,_⟩ | ⟨g',cap',cur,hv,_,hh,_⟩
  ·cases hv
  ·cases hv;exact (Array.getElem?_eq_some_iff.1 hh).1
 ·have hl:k<l.length:=by have:=h.1;rw [ecs_len] at this;omega
  have hj8:j<(l[k]).l.length:=hj
  have:=h.cells (g:=q) rfl (k*8+j) ((l[k]).l[j]) (by rw [ecs_at l k j hl hj];exact List.getElem?_eq_getElem hj8)
  rw [add_mk,Nat.zero_add] at this
  rw [this,←lg_get hl]
  exact (List.getElem?_eq_getElem hj8).symm
theorem ERow.till {W:World} {q n:Nat} {f:Nat→Le} (h:ERow W q n f) {k:Nat} (hk:k<n) (d:Int):ERow (W.setCell ⟨q,k*8+7,none⟩ (.int .i64 d)) q n (fun i=>if i=k then (f k).till d else f i):=by
 refine ⟨by simpa using h.1,fun i hi j hj=>?_,fun o=>by rw [World.frozen?_setCell];exact h.2.2 o⟩
 by_cases e:i=k
 ·subst e
  simp only [if_true]
  by_cases e7:j=7
  ·subst e7
   rw [World.cell?_setCell_same' _ _ _ (by rw [h.2.1 i hi 7 (by omega)];rfl)]
   rfl
  ·rw [World.cell?_setCell_other _ _ _ _ (fun e=>by injection e with _ e _;omega),h.2.1 i hi j hj]
   match j,(show j<7 by omega) with
   | 0,_=>rfl
   | 1,_=>rfl
   | 2,_=>rfl
   | 3,_=>rfl
   | 4,_=>rfl
   | 5,_=>rfl
   | 6,_=>rfl
 ·simp only [if_neg e]
  rw [World.cell?_setCell_other _ _ _ _ (fun e'=>by injection e' with _ e' _;omega),h.2.1 i hi j hj]
theorem lg_row (l:List Le):(List.range l.length).map (lg l)=l:=by
 refine List.ext_getElem (by simp) fun i h1 h2=>?_
 rw [List.getElem_map,List.getElem_range,lg_get h2]
theorem lg_set (l:List Le) (k:Nat) (hk:k<l.length) (x:Le) (i:Nat):lg (l.set k x) i=if i=k then x else lg l i:=by
 unfold lg
 rw [List.getD_eq_getElem?_getD,List.getD_eq_getElem?_getD,List.getElem?_set]
 by_cases e:k=i
 ·subst e;rw [if_pos rfl,if_pos rfl,if_pos hk];rfl
 ·rw [if_neg e,if_neg (fun h=>e h.symm)]
theorem till_el {W:World} {q n cap k:Nat} {l:List Le} (h:ERow W q n (lg l)) (hn:l.length=n) (hk:k<n) (d:Int) (hc:n≤cap) (hm:cap≤maxLen):El (W.setCell ⟨q,k*8+7,none⟩ (.int .i64 d)) (W.setCell ⟨q,k*8+7,none⟩ (.int .i64 d)).heap.size (.slice (some ⟨q,0,none⟩) n cap) (l.set k ((lg l k).till d)):=by
 have h1:=(h.till hk d).el n cap (Nat.le_refl _) hc hm
 have h2:(List.range n).map (fun i=>if i=k then (lg l k).till d else lg l i)=l.set k ((lg l k).till d):=by
  rw [←lg_row (l.set k ((lg l k).till d)),List.length_set,hn]
  exact List.map_congr_left fun i _=>(lg_set l k (by omega) _ i).symm
 rw [h2] at h1
 exact h1
structure ExW (w:World) (p r:Nat) (A:Option Addr) (c:Nat) (l:List Le) (A2:Option Addr) (c2:Nat) (h:List Du) (W:World):Prop where
 va:VaA w p A c l A2 c2 h W
 rt:RT W r none 0 0 none 0 0
 ne:w.heap.size≤p∧p<r
section
variable {w W W' : World} {p r c c2:Nat} {A A2:Option Addr} {l:List Le} {h:List Du}
theorem ExW.below (k:ExW w p r A c l A2 c2 h W) (hb:Below W.heap.size W W'):ExW w p r A c l A2 c2 h W':=⟨k.va.below hb,k.rt.below hb k.rt.lt,k.ne⟩
theorem ExW.start (hv:El w w.heap.size (.slice A l.length c) l) (hd:Dl w w.heap.size (.slice A2 h.length c2) h) (t:TypeId):ExW w w.heap.size (w.heap.size+1) A c l A2 c2 h ((w.alloc (.cells #[.slice A l.length c,.slice A2 h.length c2] t)).alloc (.cells #[.slice none 0 0,.slice none 0 0] t)):=by
 have e1:(w.alloc (.cells #[.slice A l.length c,.slice A2 h.length c2] t)).heap.size=w.heap.size+1:=by simp
 have k1:=RT.start (w.alloc (.cells #[.slice A l.length c,.slice A2 h.length c2] t)) none 0 0 none 0 0 t
 rw [e1] at k1
 exact ⟨(VaA.start t hv hd).alloc _,k1,Nat.le_refl _,Nat.lt_succ_self _⟩
end
set_option maxHeartbeats 8000000 in
set_option maxRecDepth 20000 in
theorem lextend_any (A:Option Addr) (n c:Nat) (l:List Le) (A2:Option Addr) (n2 c2:Nat) (h:List Du) (id dl:Int) (w:World) (hv:El w w.heap.size (.slice A n c) l) (hd:Dl w w.heap.size (.slice A2 n2 c2) h) :
  Calls Tryz.prog 57 #[tv A n c A2 n2 c2,.int .i64 id,.int .i64 dl] w (TE w (exL l h id dl) (exH l h id dl) (exE l h id dl)):=by
 obtain ⟨rfl,hm1,hm2⟩:=hv.len
 obtain ⟨rfl,hm3,hm4⟩:=hd.len
 have H0:=Lh (ExW.start hv hd 31)
 have HRM:=Lh (fun p W (k:VaA w p A c l A2 c2 h W)=>removed_any A l.length c l A2 h.length c2 h id W k.el k.dl)
 clear hv hd hm1 hm2 hm3 hm4
 by_cases he:rlE l h id=0
 ·obtain ⟨t,k,hk,hka,_,hH,-,-⟩:=rlE_at he
  have hxe:=exE_ok (dl:=dl) he
  rw [he,hH] at HRM
  have HPU:=Lh (fun A3 c3 W (q:Dl W W.heap.size (.slice A3 (rmR h id).length c3) (rmR h id))=>dpush_any A3 (rmR h id).length c3 (rmR h id) ⟨dl,id⟩ W q)
  by_cases hx:exE l h id dl=0
  ·obtain ⟨-,k',hk',hka',-,hH',hL'⟩:=exE_at hx
   obtain rfl:k=k':=by rw [←hka,←hka']
   rw [←hH',←hxe,hx] at HPU
   have HP:=Lh (fun p W (q:VaA w p A c l A2 c2 h W)=>lplace_any A l.length c l id W q.el t.asc (by have:=t.len;omega))
   unfold PlR at HP
   rw [hka] at HP
   have HCL:=Lh (fun p W (q:VaA w p A c l A2 c2 h W)=>eclone_any A l.length c l W q.el (by have:=t.len;omega))
   rw [hx,hL',lg_get hk]
   have HLS:=Lh (show (l.set k ((lg l k).till dl)).length=l.length from List.length_set)
   generalize exH l h id dl=K at*
   generalize rmR h id=K0 at*
   generalize kHas Le.id l id=O at*
   have HTE:=Lh (fun (W:World) (q cap:Nat) (hr:ERow W q l.length (lg l)) (hc:l.length≤cap) (hm:cap≤maxLen)=>till_el hr rfl hk dl hc hm)
   generalize l.set k ((lg l k).till dl)=LS at*
   have hk' : (k:Int)<(l.length:Int):=by omega
   have HK0:=Lh (show 0<l.length by omega)
   clear he t hka hH hx hxe hka' hH' hL'
   go_enter Tryz.func57,Tryz.ntmps57
   obtain ⟨t0,t1,tl⟩:=H0.out.va.tb
   go_wp2_with fail
   clear t0 t1 tl
   obtain ⟨p,hp⟩:∃ p,p=w.heap.size:=⟨_,rfl⟩
   obtain ⟨r,hr⟩:∃ r,r=w.heap.size+1:=⟨_,rfl⟩
   rw [←hr,←hp] at H0 ⊢
   clear hp hr
   generalize ((w.alloc (.cells #[.slice A l.length c,.slice A2 h.length c2] 31)).alloc (.cells #[.slice none 0 0,.slice none 0 0] 31))=w1 at*
   refine (HRM.out _ _ H0.out.va).mono ?_
   rintro e w2 ⟨A3,c3,rfl,hnw,hl,hb⟩
   have H1:=Lh (H0.out.below hb)
   have HK:=Lh hl
   clear hb hnw hl
   go_wp2_with fail
   refine (HPU.out _ _ _ HK.out).mono ?_
   rintro e w3 ⟨A5,c5,rfl,hnw,hl,hb⟩
   have H2:=Lh (H1.out.below hb)
   have HNW:=Lh (And.intro hnw (And.intro H1.out.rt.lt H1.out.va.bel.size))
   have HK:=Lh hl
   clear hb hnw hl
   obtain ⟨t0,t1,tl⟩:=H2.out.va.tb
   go_wp2_with fail
   clear t0 t1 tl
   refine (HP.out _ _ H2.out.va).mono ?_
   rintro e w4 ⟨rfl,hb⟩
   have H3:=Lh (H2.out.below hb)
   have HK:=Lh (HK.out.below hb)
   have HSZ:=Lh hb.size
   clear hb
   obtain ⟨t0,t1,tl⟩:=H3.out.va.tb
   go_wp2_with fail
   clear t0 t1 tl
   refine (HCL.out _ _ H3.out.va).mono ?_
   rintro e w5 ⟨v,rfl,ho,hb⟩
   obtain ⟨q,cap,cur,rfl,hq,hrw,hlc,hmc,-,-⟩:=Rw.of_own ho HK0.out
   have H4:=Lh (H3.out.below hb)
   have HK:=Lh (HK.out.below (hb.mono HSZ.out))
   have HRW:=Lh (ERow.of_own ho)
   have HQ:=Lh (And.intro hq (And.intro hlc hmc))
   have HQR:=Lh (show r<q from Nat.lt_of_lt_of_le H3.out.rt.lt hq)
   clear hb ho hrw hq
   obtain ⟨r0,r1,f0,f1,rl⟩:=H4.out.rt
   obtain ⟨c0,c1,c2',c3',c4',c5',c6',c7⟩:=HRW.out.c8 hk
   have g7:=HRW.out.2.2 (k*8+7)
   have hrq:¬r=q:=by have:=HQR.out;omega
   have hqr:¬q=r:=by have:=HQR.out;omega
   clear c0 c1 c2' c3' c4' c5' c6'
   have HEL:=Lh (HTE.out _ _ _ HRW.out HQ.out.2.1 HQ.out.2.2)
   have HKL:=Lh (((HK.out.setCell (p:=⟨q,k*8+7,none⟩) (by have:=HSZ.out;have:=HQ.out.1;show _≤q;omega) (.int .i64 dl)).set2 (r:=r) (v:=.slice (some ⟨q,0,none⟩) l.length cap) (v2:=.slice A5 K.length c5) HNW.out.1 HNW.out.2.1).more (show w3.heap.size≤(set2 (w5.setCell ⟨q,k*8+7,none⟩ (.int .i64 dl)) r (.slice (some ⟨q,0,none⟩) l.length cap) (.slice A5 K.length c5)).heap.size by have:=HSZ.out;have:=HQ.out.1;have:=HRW.out.1;simp;omega))
   have HF:=Lh (show TE w LS K 0 (.returned (.tuple #[.agg #[.slice (some ⟨q,0,none⟩) l.length cap,.slice A5 K.length c5],.int .i64 0])) (set2 (w5.setCell ⟨q,k*8+7,none⟩ (.int .i64 dl)) r (.slice (some ⟨q,0,none⟩) l.length cap) (.slice A5 K.length c5)) from
    ⟨some ⟨q,0,none⟩,cap,A5,c5,by rw [HLS.out],nw_some (by have:=H3.out.va.bel.size;have:=HQ.out.1;omega),nw_low HNW.out.1 HNW.out.2.2,by rw [HLS.out];exact (HEL.out.set2 (lo:=w4.heap.size) (nw_some HQ.out.1) H3.out.rt.lt).more (by simp),HKL.out,set2_below (H4.out.va.bel.setCell (p:=⟨q,k*8+7,none⟩) (by have:=H3.out.va.bel.size;have:=HQ.out.1;show _≤q;omega) _) (by have:=H4.out.ne;omega)⟩)
   go_wp2
   exact bodyPost_ret (v:=.tuple #[.agg #[.slice (some ⟨q,0,none⟩) l.length cap,.slice A5 K.length c5],.int .i64 0]) (by simp only [results,Tryz.results57];go_simp <;> rfl) rfl HF.out
  ·have HN:=Lh (exE_ne hx)
   have hne:(exE l h id dl != 0)=true:=bne_iff_ne.2 hx
   rw [←hxe] at HPU
   rw [HN.out.1,HN.out.2]
   generalize puR (rmR h id) ⟨dl,id⟩=K at*
   generalize rmR h id=K0 at*
   generalize exE l h id dl=x at*
   clear he t hka hH hx hxe HN
   go_enter Tryz.func57,Tryz.ntmps57
   obtain ⟨t0,t1,tl⟩:=H0.out.va.tb
   go_wp2_with fail
   clear t0 t1 tl
   obtain ⟨p,hp⟩:∃ p,p=w.heap.size:=⟨_,rfl⟩
   obtain ⟨r,hr⟩:∃ r,r=w.heap.size+1:=⟨_,rfl⟩
   rw [←hr,←hp] at H0 ⊢
   clear hp hr
   generalize ((w.alloc (.cells #[.slice A l.length c,.slice A2 h.length c2] 31)).alloc (.cells #[.slice none 0 0,.slice none 0 0] 31))=w1 at*
   refine (HRM.out _ _ H0.out.va).mono ?_
   rintro e w2 ⟨A3,c3,rfl,hnw,hl,hb⟩
   have H1:=Lh (H0.out.below hb)
   have HK:=Lh hl
   clear hb hnw hl
   go_wp2_with fail
   refine (HPU.out _ _ _ HK.out).mono ?_
   rintro e w3 ⟨A5,c5,rfl,hnw,hl,hb⟩
   have H2:=Lh (H1.out.below hb)
   clear hb hnw hl
   obtain ⟨r0,r1,f0,f1,rl⟩:=H2.out.rt
   have HB:=Lh (show Below w.heap.size w (set2 w3 r (.slice none 0 0) (.slice none 0 0)) from set2_below H2.out.va.bel (by have:=H2.out.ne;omega))
   go_wp2
   exact bodyPost_ret (v:=.tuple #[.agg #[.slice none 0 0,.slice none 0 0],.int .i64 x]) (by simp only [results,Tryz.results57];go_simp <;> rfl) rfl (te_nil rfl rfl rfl HB.out)
 ·have hx:=exE_rl (dl:=dl) he
  have HN:=Lh (exE_ne (l:=l) (h:=h) (id:=id) (dl:=dl) (by rw [hx];exact he))
  have hne:(rlE l h id != 0)=true:=bne_iff_ne.2 he
  rw [(rlE_ne he).1] at HRM
  rw [HN.out.1,HN.out.2,hx]
  generalize rlE l h id=x at*
  clear he hx HN
  go_enter Tryz.func57,Tryz.ntmps57
  obtain ⟨t0,t1,tl⟩:=H0.out.va.tb
  go_wp2_with fail
  clear t0 t1 tl
  obtain ⟨p,hp⟩:∃ p,p=w.heap.size:=⟨_,rfl⟩
  obtain ⟨r,hr⟩:∃ r,r=w.heap.size+1:=⟨_,rfl⟩
  rw [←hr,←hp] at H0 ⊢
  clear hp hr
  generalize ((w.alloc (.cells #[.slice A l.length c,.slice A2 h.length c2] 31)).alloc (.cells #[.slice none 0 0,.slice none 0 0] 31))=w1 at*
  refine (HRM.out _ _ H0.out.va).mono ?_
  rintro e w2 ⟨A3,c3,rfl,hnw,hl,hb⟩
  have H2:=Lh (H0.out.below hb)
  clear hb hnw hl
  obtain ⟨r0,r1,f0,f1,rl⟩:=H2.out.rt
  have HB:=Lh (show Below w.heap.size w (set2 w2 r (.slice none 0 0) (.slice none 0 0)) from set2_below H2.out.va.bel (by have:=H2.out.ne;omega))
  go_wp2
  exact bodyPost_ret (v:=.tuple #[.agg #[.slice none 0 0,.slice none 0 0],.int .i64 x]) (by simp only [results,Tryz.results57];go_simp <;> rfl) rfl (te_nil rfl rfl rfl HB.out)
def InP (base:Nat) (l:List Le) (i:Nat) (X:Le) (w:World) (e:Ending) (w' : World):Prop:=∃ A c,e=.returned (.slice A (l.length+1) c)∧w'.ownsRow base 58 8 (.slice A (l.length+1) c) (l.length+1) (ecs (l.take i++X::l.drop i))∧Below base w w'
theorem lease_size:(Tryz.prog.info? 58).map (·.size)=some 8:=by kernel_rfl
theorem ecs_one1 (X:Le):ecs [X]=X.l:=by simp [ecs]
theorem ecs_mid (l:List Le) (i:Nat) (X:Le):ecs (l.take i++X::l.drop i)=ecs (l.take i)++(X.l++ecs (l.drop i)):=by rw [ecs_app,ecs_cons]
theorem ecs_split (l:List Le) (i:Nat):ecs l=ecs (l.take i)++ecs (l.drop i):=by rw [←ecs_app,List.take_append_drop]
theorem ecs_take_len {l:List Le} {i:Nat} (hi:i≤l.length):(ecs (l.take i)).length=i*8:=by rw [ecs_len,List.length_take,Nat.min_eq_left hi]
theorem ecs_drop_len (l:List Le) (i:Nat):(ecs (l.drop i)).length=(l.length - i)*8:=by rw [ecs_len,List.length_drop]
set_option maxHeartbeats 4000000 in
set_option maxRecDepth 20000 in
theorem insert_end (base vb:Nat) (v:Value) (l:List Le) (X:Le) (w:World) (hl:l.length≤100) (ho:w.ownsRow base 58 8 v l.length (ecs l)) (hb:base≤w.heap.size) (hx:Rw w vb 58 X.l) (hne:v.ownBlock≠some vb) :
  Calls Tryz.prog 101 #[v,.int .i64 (l.length:Int),.slice (some ⟨vb,0,none⟩) 1 1] w (InP base l l.length X w):=by
 obtain ⟨A,c,rfl⟩:=own_form ho
 have hnc:l.length≤c:=(El.of_own ho).len.2.1
 obtain ⟨i0,hi0,hz0⟩:=Option.map_eq_some_iff.1 info_lease
 simp only [Prod.mk.injEq] at hz0
 have HI:=Lh hi0
 have HZ:=Lh hz0
 have HO:=Lh ho
 have HB:=Lh hb
 have HRX:=Lh (show Rd w w.heap.size 8 (some ⟨vb,0,none⟩) 1 X.l from ⟨rfl,fun _=>⟨vb,0,rfl,hx.lt,fun j u hu=>by rw [Nat.zero_add];exact hx.cell hu⟩⟩)
 have HE:=Lh (show ecs (l.take l.length++X::l.drop l.length)=ecs l++X.l by rw [List.take_length,List.drop_length,ecs_app,ecs_one1])
 obtain ⟨A',hA',hcut⟩:=run_ecut A l.length c .i64 l.length (Nat.le_refl _)
 rw [Nat.sub_self] at hcut
 clear hA'
 have hLX:X.l.length=8:=rfl
 clear ho hb hx hne hi0 hz0
 go_enter Tryz.func101,Tryz.ntmps101
 go_wp2_with (at_builtin;refine wpList_append_rd _ rfl (.tmp 23) (.tmp 24) 28 rfl base 58 i0 _ 8 72 Tryz.underlying28 HI.out HZ.out.1 HZ.out.2.1 HZ.out.2.2 rfl (by omega) (.slice A l.length c) l.length (ecs l) rfl HO.out w.heap.size (some ⟨vb,0,none⟩) 1 1 X.l rfl HRX.out X.l_one (by unfold maxLen;omega) (by omega) HB.out ?_;intro v1 w1 hown1 hg1 hat1)
 obtain ⟨A1,c1,rfl⟩:=own_form hown1
 have HF:=Lh (show InP base l l.length X w (.returned (.slice A1 (l.length+1) c1)) w1 from ⟨A1,c1,rfl,by rw [HE.out];exact hown1,(Below.refl _ _).grown hg1 HB.out (fun k hk=>(HO.out.lt k hk).1)⟩)
 clear hown1 hg1 hat1
 go_wp2
 go_ret
 exact HF.out
set_option maxHeartbeats 4000000 in
set_option maxRecDepth 20000 in
theorem insert_grow (base vb:Nat) (l:List Le) (i:Nat) (X:Le) (w:World) (hi:i<l.length) (hl:l.length≤100) (g cap:Nat) (cur:List Value) (hbg:base≤g) (hg:Rw w g 58 cur) (hlc:l.length≤cap) (hm:cap≤maxLen) (hcs:cur.length=cap*8) (hct:cur.take (l.length*8)=ecs l) (hb:base≤w.heap.size) (hx:Rw w vb 58 X.l) (hne:g≠vb) (hroom:cap<l.length+1) :
  Calls Tryz.prog 101 #[.slice (some ⟨g,0,none⟩) l.length cap,.int .i64 (i:Int),.slice (some ⟨vb,0,none⟩) 1 1] w (InP base l i X w):=by
 obtain ⟨i0,hi0,hz0⟩:=Option.map_eq_some_iff.1 info_lease
 simp only [Prod.mk.injEq] at hz0
 obtain ⟨hz1,hz2,hz3⟩:=hz0
 have hread:∀ j u,(ecs l)[j]? = some u→w.cell? ⟨g,j,none⟩=some u:=fun j u hu=>hg.cell (by
  rw [←hct,List.getElem?_take] at hu
  split at hu
  ·exact hu
  ·cases hu)
 have hold:(Builtin.firstCells i0.size i (.slice (some ⟨g,0,none⟩) i cap)).run Tryz.prog w.drew=.ok (ecs (l.take i)).toArray w.drew:=by
  rw [hz2]
  exact run_firstCells_some w.drew 8 i ⟨g,0,none⟩ i cap (ecs (l.take i)) (by rw [ecs_take_len (by omega)]) (fun j u hu=>by
   rw [add_mk,Nat.zero_add]
   refine hread j u ?_
   rw [ecs_split l i,List.getElem?_append_left (List.getElem?_eq_some_iff.1 hu).1]
   exact hu)
 have hsub:IntKind.i64.wrap ((l.length:Int)+1 - (i:Int))=(l.length:Int)+1 - (i:Int):=IntWalk.i64_in _ (by omega)
 have hrz:∀ ty,(Builtin.append_ #[28,3] ty #[.slice (some ⟨g,0,none⟩) i cap,.int .i64 ((l.length:Int)+1 - (i:Int))]).run Tryz.prog w =
   .ok (.slice (some ⟨w.heap.size,0,none⟩) (l.length+1) (grownCap w (l.length+1) cap 58)) (w.drew.alloc (.cells ((ecs (l.take i)).toArray++Builtin.zeroCells (Le.v zL).cells (l.length+1 - i)++Builtin.zeroCells (Le.v zL).cells (grownCap w (l.length+1) cap 58 - (l.length+1))) 58)):=fun ty=>by
  have h:=Lib.run_append_grow_zeros (P:=Tryz.prog) w 28 3 ty 58 i0 (Le.v zL) .i64 .i64 Tryz.underlying28 Tryz.underlying3 hi0 hz1 (some ⟨g,0,none⟩) i cap (ecs (l.take i)) hold (l.length+1 - i) (by omega) (by omega) (by omega) (by omega) (by rw [hz3];omega) (by rw [hz3,show i+(l.length+1 - i)=l.length+1 by omega];exact growslice_fits hroom (by omega))
  rw [show i+(l.length+1 - i)=l.length+1 by omega,show ((l.length+1 - i:Nat):Int)=(l.length:Int)+1 - (i:Int) by omega] at h
  exact h
 have hGn:l.length+1≤grownCap w (l.length+1) cap 58:=grownCap_ge w _ _ _
 have hGm:grownCap w (l.length+1) cap 58≤maxLen:=grownCap_le_maxLen w (l.length+1) cap 58 (by unfold maxLen;omega)
 obtain ⟨G,hG⟩:∃ G,G=grownCap w (l.length+1) cap 58:=⟨_,rfl⟩
 rw [←hG] at hrz hGn hGm
 obtain ⟨ROW,hROW⟩:∃ ROW:List Value,ROW=((ecs (l.take i)).toArray++Builtin.zeroCells (Le.v zL).cells (l.length+1 - i)++Builtin.zeroCells (Le.v zL).cells (G - (l.length+1))).toList:=⟨_,rfl⟩
 have hRL:ROW.length=G*8:=by
  have e8:(Le.v zL).cells.size=8:=rfl
  rw [hROW]
  simp [Builtin.zeroCells,ecs_len]
  rw [e8] at*
  omega
 have hRT:ROW.take (i*8)=ecs (l.take i):=by
  rw [hROW]
  simp only [Array.toList_append,List.append_assoc]
  rw [List.take_append_of_le_length (Nat.le_of_eq (ecs_take_len (by omega)).symm),List.take_of_length_le (Nat.le_of_eq (ecs_take_len (by omega)))]
 obtain ⟨W1,hW1⟩:∃ W1,W1=w.drew.alloc (.cells ROW.toArray 58):=⟨_,rfl⟩
 rw [show (ecs (l.take i)).toArray++Builtin.zeroCells (Le.v zL).cells (l.length+1 - i)++Builtin.zeroCells (Le.v zL).cells (G - (l.length+1))=ROW.toArray by rw [hROW],←hW1] at hrz
 have HR1:=Lh (show Rw W1 w.heap.size 58 ROW by rw [hW1];simpa using Rw.fresh w.drew ROW.toArray 58)
 have HB1:=Lh (show Below w.heap.size w W1 by rw [hW1];exact (Below.refl _ _).drew.alloc (Nat.le_refl _) _)
 obtain ⟨N,hN⟩:∃ N,N=w.heap.size:=⟨_,rfl⟩
 rw [←hN] at HR1 HB1 hrz
 have HN:=Lh (show base≤N∧g<N∧vb<N by have:=hg.lt;have:=hx.lt;omega)
 have hk:=run_eupto (some ⟨g,0,none⟩) l.length cap .i64 i (by omega)
 have hc1:∀ W,(Instr.slice 28 (.slice (some ⟨g,0,none⟩) l.length cap) (some (.int .i64 (i:Int))) none none).run Tryz.prog W=.ok (.slice (some ⟨g,i*8,none⟩) (l.length - i) (cap - i)) W:=fun W=>by
  obtain ⟨A',hA',h⟩:=run_ecut (some ⟨g,0,none⟩) l.length cap .i64 i (by omega)
  rw [hA',if_neg (by omega),Option.map_some,add_mk,Nat.zero_add] at h
  exact h W
 have hc2:∀ W,(Instr.slice 28 (.slice (some ⟨N,0,none⟩) (l.length+1) G) (some (.int .i64 (i:Int))) none none).run Tryz.prog W=.ok (.slice (some ⟨N,i*8,none⟩) (l.length+1 - i) (G - i)) W:=fun W=>by
  obtain ⟨A',hA',h⟩:=run_ecut (some ⟨N,0,none⟩) (l.length+1) G .i64 i (by omega)
  rw [hA',if_neg (by omega),Option.map_some,add_mk,Nat.zero_add] at h
  exact h W
 have hc3:∀ W,(Instr.slice 28 (.slice (some ⟨N,0,none⟩) (l.length+1) G) (some (.int .i64 ((i:Int)+1))) none none).run Tryz.prog W=.ok (.slice (some ⟨N,(i+1)*8,none⟩) (l.length+1 - (i+1)) (G - (i+1))) W:=fun W=>by
  obtain ⟨A',hA',h⟩:=run_ecut (some ⟨N,0,none⟩) (l.length+1) G .i64 (i+1) (by omega)
  rw [hA',if_neg (by omega),Option.map_some,add_mk,Nat.zero_add,show ((i+1:Nat):Int)=(i:Int)+1 by omega] at h
  exact h W
 have hgr:(cap:Int)<(l.length:Int)+1:=by omega
 have hne1:((i:Int)==(l.length:Int))=false:=by simp;omega
 have hw1:IntKind.i64.wrap ((l.length:Int)+1)=(l.length:Int)+1:=IntWalk.i64_in _ (by omega)
 have hw2:IntKind.i64.wrap ((i:Int)+1)=(i:Int)+1:=IntWalk.i64_in _ (by omega)
 have HX:=Lh hx
 have HG:=Lh (fun j u (hu:(ecs (l.drop i))[j]? = some u)=>show w.cell? ⟨g,i*8+j,none⟩=some u from hread _ u (by rw [ecs_split l i,List.getElem?_append_right (by rw [ecs_take_len (by omega)];omega),ecs_take_len (by omega),Nat.add_sub_cancel_left];exact hu))
 have HLN:=Lh (show (ecs (l.take i)).length=i*8∧(ecs (l.drop i)).length=(l.length - i)*8∧X.l.length=8 from ⟨ecs_take_len (by omega),ecs_drop_len l i,rfl⟩)
 have HRR:=Lh (And.intro hRL (And.intro hRT (And.intro hGn hGm)))
 have hiL:(i:Int)<(l.length:Int):=by omega
 have hil:i<l.length:=hi
 have em1:Nat.min 1 (l.length+1 - i)=1:=Nat.min_eq_left (by omega)
 have em2:Nat.min (l.length - i) (l.length+1 - (i+1))=l.length - i:=by rw [show l.length+1 - (i+1)=l.length - i by omega];exact Nat.min_self _
 have hcp1:∀ ty,(Builtin.copy_ #[28,28] ty #[.slice (some ⟨N,i*8,none⟩) (l.length+1 - i) (G - i),.slice (some ⟨vb,0,none⟩) 1 1]).run Tryz.prog W1=.ok (goInt (Nat.min 1 (l.length+1 - i))) (W1.setRow N (splice ROW (i*8) X.l).toArray):=fun ty=>
  run_copy_sized W1 28 28 ty 58 8 N (i*8) (l.length+1 - i) (G - i) ⟨vb,0,none⟩ 1 1 ROW 58 X.l Tryz.underlying28 lease_size HR1.out (by rw [HLN.out.2.2,em1]) (fun j u hu=>by rw [add_mk,Nat.zero_add];exact (HB1.out.cell (p:=⟨vb,j,none⟩) HN.out.2.2).trans (HX.out.cell hu)) (by rw [HRR.out.1,HLN.out.2.2];omega) X.l_one
 have HR2:=Lh (Rw.set HR1.out (i*8) X.l)
 have HG2:=Lh (grown_setRow W1 N (splice ROW (i*8) X.l).toArray)
 rw [em1] at hcp1
 generalize W1.setRow N (splice ROW (i*8) X.l).toArray=W2 at*
 have HSP:=Lh (splice_len ROW (i*8) X.l (by rw [HRR.out.1,HLN.out.2.2];omega))
 have hcp2:∀ ty,(Builtin.copy_ #[28,28] ty #[.slice (some ⟨N,(i+1)*8,none⟩) (l.length+1 - (i+1)) (G - (i+1)),.slice (some ⟨g,i*8,none⟩) (l.length - i) (cap - i)]).run Tryz.prog W2.drew=.ok (goInt (Nat.min (l.length - i) (l.length+1 - (i+1)))) (W2.drew.setRow N (splice (splice ROW (i*8) X.l) ((i+1)*8) (ecs (l.drop i))).toArray):=fun ty=>
  run_copy_sized W2.drew 28 28 ty 58 8 N ((i+1)*8) (l.length+1 - (i+1)) (G - (i+1)) ⟨g,i*8,none⟩ (l.length - i) (cap - i) (splice ROW (i*8) X.l) 58 (ecs (l.drop i)) Tryz.underlying28 lease_size HR2.out (by rw [HLN.out.2.1,em2]) (fun j u hu=>by rw [add_mk];exact ((HG2.out.cell_far ⟨g,i*8+j,none⟩ (by have:=HB1.out.size;have:=HN.out;show g<_;omega) (by have:=HN.out;intro e;injection e with e;simp at e;omega)).trans (HB1.out.cell (p:=⟨g,i*8+j,none⟩) HN.out.2.1)).trans (HG.out j u hu)) (by rw [HSP.out,HRR.out.1,HLN.out.2.1];omega) (ecs_one _)
 have HR3:=Lh (Rw.set (show Rw W2.drew N 58 _ from HR2.out) ((i+1)*8) (ecs (l.drop i)))
 have HG3:=Lh (grown_setRow W2.drew N (splice (splice ROW (i*8) X.l) ((i+1)*8) (ecs (l.drop i))).toArray)
 generalize W2.drew.setRow N (splice (splice ROW (i*8) X.l) ((i+1)*8) (ecs (l.drop i))).toArray=W3 at*
 rw [em2,show l.length+1 - (i+1)=l.length - i by omega] at hcp2
 rw [show l.length+1 - (i+1)=l.length - i by omega] at hc3
 clear em1 em2
 have HF:=Lh (show InP base l i X w (.returned (.slice (some ⟨N,0,none⟩) (l.length+1) G)) W3 from by
  refine ⟨_,_,rfl,Rw.own HR3.out HN.out.1 HRR.out.2.2.1 HRR.out.2.2.2 ?_ ?_,?_⟩
  ·rw [splice_len _ _ _ (by rw [HSP.out,HRR.out.1,HLN.out.2.1];omega),HSP.out,HRR.out.1]
  ·rw [ecs_mid]
   have:=splice_two (A:=ecs (l.take i)) (M:=X.l) (B:=ecs (l.drop i)) (cur:=ROW) (by rw [HLN.out.1];exact HRR.out.2.1) (by rw [HLN.out.1,HLN.out.2.1,HLN.out.2.2,HRR.out.1];omega)
   rw [HLN.out.1,HLN.out.2.1,HLN.out.2.2,show i*8+8=(i+1)*8 by omega,show (i+1)*8+(l.length - i)*8=(l.length+1)*8 by omega] at this
   exact this
  ·have hb1:Below base w W1:=HB1.out.mono HN.out.1
   exact ((hb1.grown HG2.out (by have:=HB1.out.size;have:=HN.out;omega) (fun k e=>by injection e with e;subst e;exact HN.out.1)).drew).grown HG3.out (by have:=HB1.out.size;have:=HG2.out.size;have:=HN.out;show base≤W2.heap.size;omega) (fun k e=>by injection e with e;subst e;exact HN.out.1))
 clear hg hx hct hcs hm hi0 hz1 hz2 hz3 hread hold hG hROW hW1 hRL hRT hi hN
 go_enter Tryz.func101,Tryz.ntmps101
 go_wp2_with (at_builtin;refine Lib.wpList_append_run _ rfl _ _ _ _ rfl _ _ rfl rfl _ _ (hrz _) ?_)
 go_region_held3 (fun W=>TruW W) (exact trivial) (first | (fail))
 go_wp2
 go_ret
 exact HF.out
set_option maxHeartbeats 4000000 in
set_option maxRecDepth 20000 in
theorem insert_shift (base vb:Nat) (l:List Le) (i:Nat) (X:Le) (w:World) (hi:i<l.length) (hl:l.length≤100) (g cap:Nat) (cur:List Value) (hbg:base≤g) (hg:Rw w g 58 cur) (hm:cap≤maxLen) (hcs:cur.length=cap*8) (hct:cur.take (l.length*8)=ecs l) (hb:base≤w.heap.size) (hx:Rw w vb 58 X.l) (hne:g≠vb) (hroom:l.length+1≤cap) :
  Calls Tryz.prog 101 #[.slice (some ⟨g,0,none⟩) l.length cap,.int .i64 (i:Int),.slice (some ⟨vb,0,none⟩) 1 1] w (InP base l i X w):=by
 have hcap:cap≤9223372036854775807:=by unfold maxLen at hm;omega
 have hread:∀ j u,(ecs l)[j]? = some u→w.cell? ⟨g,j,none⟩=some u:=fun j u hu=>hg.cell (by
  rw [←hct,List.getElem?_take] at hu
  split at hu
  ·exact hu
  ·cases hu)
 have HLN:=Lh (show (ecs (l.take i)).length=i*8∧(ecs (l.drop i)).length=(l.length - i)*8∧X.l.length=8 from ⟨ecs_take_len (by omega),ecs_drop_len l i,rfl⟩)
 have hG:∀ j u,(ecs (l.drop i))[j]? = some u→w.cell? ⟨g,i*8+j,none⟩=some u:=fun j u hu=>hread _ u (by rw [ecs_split l i,List.getElem?_append_right (by rw [ecs_take_len (by omega)];omega),ecs_take_len (by omega),Nat.add_sub_cancel_left];exact hu)
 have em1:Nat.min (l.length+1 - i) (l.length - i)=l.length - i:=Nat.min_eq_right (by omega)
 have em2:Nat.min 1 (l.length+1 - i)=1:=Nat.min_eq_left (by omega)
 have hcp1:∀ ty,(Builtin.copy_ #[28,28] ty #[.slice (some ⟨g,(i+1)*8,none⟩) (l.length - i) (cap - (i+1)),.slice (some ⟨g,i*8,none⟩) (l.length+1 - i) (cap - i)]).run Tryz.prog w.drew=.ok (goInt (Nat.min (l.length+1 - i) (l.length - i))) (w.drew.setRow g (splice cur ((i+1)*8) (ecs (l.drop i))).toArray):=fun ty=>
  run_copy_sized w.drew 28 28 ty 58 8 g ((i+1)*8) (l.length - i) (cap - (i+1)) ⟨g,i*8,none⟩ (l.length+1 - i) (cap - i) cur 58 (ecs (l.drop i)) Tryz.underlying28 lease_size hg (by rw [HLN.out.2.1,em1]) (fun j u hu=>by rw [add_mk];exact hG j u hu) (by rw [hcs,HLN.out.2.1];omega) (ecs_one _)
 rw [em1] at hcp1
 have HR1:=Lh (Rw.set (show Rw w.drew g 58 cur from hg) ((i+1)*8) (ecs (l.drop i)))
 have HG1:=Lh (grown_setRow w.drew g (splice cur ((i+1)*8) (ecs (l.drop i))).toArray)
 generalize w.drew.setRow g (splice cur ((i+1)*8) (ecs (l.drop i))).toArray=W1 at*
 have HSP:=Lh (splice_len cur ((i+1)*8) (ecs (l.drop i)) (by rw [hcs,HLN.out.2.1];omega))
 have HX1:=Lh (show Rw W1 vb 58 X.l from Rw.grown (show Rw w.drew vb 58 X.l from hx) HG1.out (fun e=>hne (by injection e with e;exact e.symm)))
 have hcp2:∀ ty,(Builtin.copy_ #[28,28] ty #[.slice (some ⟨g,i*8,none⟩) (l.length+1 - i) (cap - i),.slice (some ⟨vb,0,none⟩) 1 1]).run Tryz.prog W1=.ok (goInt (Nat.min 1 (l.length+1 - i))) (W1.setRow g (splice (splice cur ((i+1)*8) (ecs (l.drop i))) (i*8) X.l).toArray):=fun ty=>
  run_copy_sized W1 28 28 ty 58 8 g (i*8) (l.length+1 - i) (cap - i) ⟨vb,0,none⟩ 1 1 _ 58 X.l Tryz.underlying28 lease_size HR1.out (by rw [HLN.out.2.2,em2]) (fun j u hu=>by rw [add_mk,Nat.zero_add];exact HX1.out.cell hu) (by rw [HSP.out,hcs,HLN.out.2.2];omega) X.l_one
 rw [em2] at hcp2
 have HR2:=Lh (Rw.set HR1.out (i*8) X.l)
 have HG2:=Lh (grown_setRow W1 g (splice (splice cur ((i+1)*8) (ecs (l.drop i))) (i*8) X.l).toArray)
 generalize W1.setRow g (splice (splice cur ((i+1)*8) (ecs (l.drop i))) (i*8) X.l).toArray=W2 at*
 clear em1 em2
 have hsz8:∀ W,(sizeOf 58).run Tryz.prog W=.ok 8 W:=fun W=>by rw [Tryz.sizeOf58]
 have hov:∀ lb cb,(callFunc 157 #[.slice (some ⟨vb,0,none⟩) 1 1,.slice (some ⟨g,(i+1)*8,none⟩) lb cb]).run Tryz.prog w=.ok (.value (.bool false)) w:=fun lb cb=>by
  rw [run_callFunc_extern Tryz.func157 (by kernel_rfl) (by kernel_rfl) (by kernel_rfl) (e:=Extern.SlicesOverlaps.overlaps #[28,28] #[4]) (by kernel_rfl),
   Lib.run_overlaps_apart w 28 4 58 Tryz.underlying28 8 hsz8 ⟨vb,0,none⟩ ⟨g,(i+1)*8,none⟩ 1 1 lb cb (fun e=>hne e.symm) 58 58 8 cur.length hx.shape hg.shape (by rw [hcs];omega) (hx.free _) (hx.free _)]
  rfl
 have HF:=Lh (show InP base l i X w (.returned (.slice (some ⟨g,0,none⟩) (l.length+1) cap)) W2 from by
  have hcur:cur=ecs (l.take i)++(ecs (l.drop i)++cur.drop (l.length*8)):=by
   rw [←List.append_assoc,←ecs_split,←hct,List.take_append_drop]
  refine ⟨_,_,rfl,Rw.own HR2.out hbg hroom hm ?_ ?_,?_⟩
  ·rw [splice_len _ _ _ (by rw [HSP.out,hcs,HLN.out.2.2];omega),HSP.out,hcs]
  ·rw [ecs_mid]
   have hlen:(cur.drop (l.length*8)).length=(cap - l.length)*8:=by rw [List.length_drop,hcs];omega
   have:=splice_shift (M:=X.l) hcur (by rw [hlen,HLN.out.2.2];omega)
   rw [HLN.out.1,HLN.out.2.2,show i*8+8=(i+1)*8 by omega] at this
   rw [this,←List.append_assoc,←List.append_assoc,List.take_append_of_le_length (by simp [HLN.out.1,HLN.out.2.1,HLN.out.2.2];omega),List.take_of_length_le (by simp [HLN.out.1,HLN.out.2.1,HLN.out.2.2];omega),List.append_assoc]
  ·exact ((Below.refl base w).drew.grown HG1.out hb (fun k e=>by injection e with e;subst e;exact hbg)).grown HG2.out (by have:=HG1.out.size;show base≤W1.heap.size;exact Nat.le_trans hb this) (fun k e=>by injection e with e;subst e;exact hbg))
 have hk:=run_eupto (some ⟨g,0,none⟩) l.length cap .i64 (l.length+1) (by omega)
 have hc1:∀ W,(Instr.slice 28 (.slice (some ⟨g,0,none⟩) l.length cap) (some (.int .i64 (i:Int))) none none).run Tryz.prog W=.ok (.slice (some ⟨g,i*8,none⟩) (l.length - i) (cap - i)) W:=fun W=>by
  obtain ⟨A',hA',h⟩:=run_ecut (some ⟨g,0,none⟩) l.length cap .i64 i (by omega)
  rw [hA',if_neg (by omega),Option.map_some,add_mk,Nat.zero_add] at h
  exact h W
 have hk2:∀ W,(Instr.slice 28 (.slice (some ⟨g,0,none⟩) l.length cap) none (some (.int .i64 ((l.length:Int)+1))) none).run Tryz.prog W=.ok (.slice (some ⟨g,0,none⟩) (l.length+1) cap) W:=fun W=>by
  have h:=hk W
  rwa [show ((l.length+1:Nat):Int)=(l.length:Int)+1 by omega] at h
 have hc2:∀ W,(Instr.slice 28 (.slice (some ⟨g,0,none⟩) (l.length+1) cap) (some (.int .i64 (i:Int))) none none).run Tryz.prog W=.ok (.slice (some ⟨g,i*8,none⟩) (l.length+1 - i) (cap - i)) W:=fun W=>by
  obtain ⟨A',hA',h⟩:=run_ecut (some ⟨g,0,none⟩) (l.length+1) cap .i64 i (by omega)
  rw [hA',if_neg (by omega),Option.map_some,add_mk,Nat.zero_add] at h
  exact h W
 have hc3:∀ W,(Instr.slice 28 (.slice (some ⟨g,0,none⟩) (l.length+1) cap) (some (.int .i64 ((i:Int)+1))) none none).run Tryz.prog W=.ok (.slice (some ⟨g,(i+1)*8,none⟩) (l.length - i) (cap - (i+1))) W:=fun W=>by
  obtain ⟨A',hA',h⟩:=run_ecut (some ⟨g,0,none⟩) (l.length+1) cap .i64 (i+1) (by omega)
  rw [hA',if_neg (by omega),Option.map_some,add_mk,Nat.zero_add,show ((i+1:Nat):Int)=(i:Int)+1 by omega,show l.length+1 - (i+1)=l.length - i by omega] at h
  exact h W
 have hgr:¬(cap:Int)<(l.length:Int)+1:=by omega
 have hne1:((i:Int)==(l.length:Int))=false:=by simp;omega
 have hw1:IntKind.i64.wrap ((l.length:Int)+1)=(l.length:Int)+1:=IntWalk.i64_in _ (by omega)
 have hw2:IntKind.i64.wrap ((i:Int)+1)=(i:Int)+1:=IntWalk.i64_in _ (by omega)
 have hiL:(i:Int)<(l.length:Int):=by omega
 have hil:i<l.length:=hi
 clear hg hx hct hcs hm hread hG hk hi hsz8
 go_enter Tryz.func101,Tryz.ntmps101
 go_wp2_with (simp only [hov])
 go_region_held3 (fun W=>TruW W) (exact trivial) (first | (fail))
 go_wp2
 go_ret
 exact HF.out
theorem insert_any (base vb:Nat) (v:Value) (l:List Le) (i:Nat) (X:Le) (w:World) (hi:i≤l.length) (hl:l.length≤100) (ho:w.ownsRow base 58 8 v l.length (ecs l)) (hb:base≤w.heap.size) (hx:Rw w vb 58 X.l) (hne:v.ownBlock≠some vb) :
  Calls Tryz.prog 101 #[v,.int .i64 (i:Int),.slice (some ⟨vb,0,none⟩) 1 1] w (InP base l i X w):=by
 by_cases e:i=l.length
 ·subst e;exact insert_end base vb v l X w hl ho hb hx hne
 ·obtain ⟨g,cap,cur,rfl,hbg,hg,hlc,hm,hcs,hct⟩:=Rw.of_own ho (by omega)
  have hgv:g≠vb:=fun e=>hne (by rw [e];rfl)
  by_cases hr:l.length+1≤cap
  ·exact insert_shift base vb l i X w (by omega) hl g cap cur hbg hg hm hcs hct hb hx hgv hr
  ·exact insert_grow base vb l i X w (by omega) hl g cap cur hbg hg hlc hm hcs hct hb hx hgv (by omega)
structure GrW (w:World) (p q r s:Nat) (A:Option Addr) (c:Nat) (l:List Le) (A2:Option Addr) (c2:Nat) (h:List Du) (X:Le) (W:World):Prop where
 va:VaA w p A c l A2 c2 h W
 rt:RT W r none 0 0 none 0 0
 le:El8 W s X
 mq:W.cell? ⟨q,0,none⟩=some (.int .i64 X.m.id)∧q<W.heap.size
 ne:w.heap.size≤p∧p<r∧r<s
section
variable {w W W' : World} {p q r s c c2:Nat} {A A2:Option Addr} {l:List Le} {h:List Du} {X:Le}
theorem El8.lt (k:El8 W s X):s<W.heap.size:=k.2.2.2.2.2.2.2.2
theorem GrW.below (k:GrW w p q r s A c l A2 c2 h X W) (hb:Below W.heap.size W W'):GrW w p q r s A c l A2 c2 h X W':=⟨k.va.below hb,k.rt.below hb k.rt.lt,k.le.below hb k.le.lt,⟨(hb.cell (p:=⟨q,0,none⟩) k.mq.2).trans k.mq.1,Nat.lt_of_lt_of_le k.mq.2 hb.size⟩,k.ne⟩
theorem GrW.start (hv:El w w.heap.size (.slice A l.length c) l) (hd:Dl w w.heap.size (.slice A2 h.length c2) h) (X:Le):GrW w w.heap.size (w.heap.size+1) (w.heap.size+1+1) (w.heap.size+1+1+1) A c l A2 c2 h X ((((w.alloc (.cells #[.slice A l.length c,.slice A2 h.length c2] 31)).alloc (.cells #[.int .i64 X.m.id,.int .i64 X.m.rt,.int .i64 X.m.ep,.int .i64 X.m.ct,.int .i64 X.m.gn,.int .i64 X.m.st,.string X.m.bd] 56)).alloc (.cells #[.slice none 0 0,.slice none 0 0] 31)).alloc (.cells #[.int .i64 X.m.id,.int .i64 X.m.rt,.int .i64 X.m.ep,.int .i64 X.m.ct,.int .i64 X.m.gn,.int .i64 X.m.st,.string X.m.bd,.int .i64 X.dl] 58)):=by
 have e2:((w.alloc (.cells #[.slice A l.length c,.slice A2 h.length c2] 31)).alloc (.cells #[.int .i64 X.m.id,.int .i64 X.m.rt,.int .i64 X.m.ep,.int .i64 X.m.ct,.int .i64 X.m.gn,.int .i64 X.m.st,.string X.m.bd] 56)).heap.size=w.heap.size+1+1:=by simp
 have e3:(((w.alloc (.cells #[.slice A l.length c,.slice A2 h.length c2] 31)).alloc (.cells #[.int .i64 X.m.id,.int .i64 X.m.rt,.int .i64 X.m.ep,.int .i64 X.m.ct,.int .i64 X.m.gn,.int .i64 X.m.st,.string X.m.bd] 56)).alloc (.cells #[.slice none 0 0,.slice none 0 0] 31)).heap.size=w.heap.size+1+1+1:=by simp
 have k1:=RT.start ((w.alloc (.cells #[.slice A l.length c,.slice A2 h.length c2] 31)).alloc (.cells #[.int .i64 X.m.id,.int .i64 X.m.rt,.int .i64 X.m.ep,.int .i64 X.m.ct,.int .i64 X.m.gn,.int .i64 X.m.st,.string X.m.bd] 56)) none 0 0 none 0 0 31
 have k2:=El8.start (((w.alloc (.cells #[.slice A l.length c,.slice A2 h.length c2] 31)).alloc (.cells #[.int .i64 X.m.id,.int .i64 X.m.rt,.int .i64 X.m.ep,.int .i64 X.m.ct,.int .i64 X.m.gn,.int .i64 X.m.st,.string X.m.bd] 56)).alloc (.cells #[.slice none 0 0,.slice none 0 0] 31)) X 58
 rw [e2] at k1
 rw [e3] at k2
 exact ⟨(((VaA.start 31 hv hd).alloc _).alloc _).alloc _,k1.below ((Below.refl _ _).alloc (Nat.le_refl _) _) k1.lt,k2,by simp [go_sem],by omega⟩
end
set_option maxHeartbeats 8000000 in
set_option maxRecDepth 20000 in
theorem lgrant_any (A:Option Addr) (n c:Nat) (l:List Le) (A2:Option Addr) (n2 c2:Nat) (h:List Du) (X:Le) (w:World) (hv:El w w.heap.size (.slice A n c) l) (hd:Dl w w.heap.size (.slice A2 n2 c2) h) :
  Calls Tryz.prog 49 #[tv A n c A2 n2 c2,X.m.v,.int .i64 X.dl] w (TE w (grL l h X) (grH l h X) (grE l h X)):=by
 obtain ⟨rfl,hm1,hm2⟩:=hv.len
 obtain ⟨rfl,hm3,hm4⟩:=hd.len
 have H0:=Lh (GrW.start hv hd X)
 have HV:=Lh (fun p W (k:VaA w p A c l A2 c2 h W)=>lvalid_any A l.length c l A2 h.length c2 h W k.el k.dl)
 have HLE:=Lh (fun W=>leaseerr_any X W)
 have HDU:=Lh (fun W=>show Calls Tryz.prog 99 #[X.v] W (fun e w'=>e=.returned (.agg #[.int .i64 X.dl,.int .i64 X.m.id])∧Below W.heap.size W w') from dueof_any X W)
 have HPU:=Lh (fun p W (k:VaA w p A c l A2 c2 h W)=>show Calls Tryz.prog 98 #[.slice A2 h.length c2,.agg #[.int .i64 X.dl,.int .i64 X.m.id]] W (DlE W (puR h X.du) (hpuE h X.du)) from dpush_any A2 h.length c2 h X.du W k.dl)
 clear hv hd hm1 hm2 hm3 hm4
 by_cases h1:tbV l h=0
 ·rw [h1] at HV
  by_cases h2:leE X=0
  ·rw [h2] at HLE
   have hpe:=grE_pu h1 h2
   rw [←hpe] at HPU
   by_cases h3:grE l h X=0
   ·obtain ⟨t,hH,hL,hl12⟩:=grE_at h3
    rw [h3,←hH] at HPU
    have HP:=Lh (fun p W (q:VaA w p A c l A2 c2 h W)=>lplace_any A l.length c l X.m.id W q.el t.asc (by omega))
    unfold PlR at HP
    have HCL:=Lh (fun p W (q:VaA w p A c l A2 c2 h W)=>eclone_any A l.length c l W q.el (by omega))
    have HIN:=Lh (fun base vb v i W=>insert_any base vb v l i X W)
    have HL12:=Lh hl12
    rw [h3,hL]
    have HKL:=Lh (show kAt Le.id l X.id≤l.length from kAt_le l X.id)
    change Hid (kAt Le.id l X.m.id≤l.length) at HKL
    change Calls Tryz.prog 49 #[tv A l.length c A2 h.length c2,X.m.v,.int .i64 X.dl] w (TE w (l.take (kAt Le.id l X.m.id)++X::l.drop (kAt Le.id l X.m.id)) (grH l h X) 0)
    generalize kAt Le.id l X.m.id=i at*
    generalize grH l h X=K at*
    generalize kHas Le.id l X.m.id=O at*
    clear h1 h2 h3 t hH hL hl12 hpe
    go_enter Tryz.func49,Tryz.ntmps49
    obtain ⟨t0,t1,tl⟩:=H0.out.va.tb
    go_wp2_with fail
    clear t0 t1 tl
    obtain ⟨p,hp⟩:∃ p,p=w.heap.size:=⟨_,rfl⟩
    obtain ⟨q,hq⟩:∃ q,q=w.heap.size+1:=⟨_,rfl⟩
    obtain ⟨r,hr⟩:∃ r,r=w.heap.size+1+1:=⟨_,rfl⟩
    obtain ⟨s,hs⟩:∃ s,s=w.heap.size+1+1+1:=⟨_,rfl⟩
    rw [←hs,←hr,←hq,←hp] at H0
    rw [←hs,←hr,←hq,←hp]
    clear hp hq hr hs
    generalize ((((w.alloc (.cells #[.slice A l.length c,.slice A2 h.length c2] 31)).alloc (.cells #[.int .i64 X.m.id,.int .i64 X.m.rt,.int .i64 X.m.ep,.int .i64 X.m.ct,.int .i64 X.m.gn,.int .i64 X.m.st,.string X.m.bd] 56)).alloc (.cells #[.slice none 0 0,.slice none 0 0] 31)).alloc (.cells #[.int .i64 X.m.id,.int .i64 X.m.rt,.int .i64 X.m.ep,.int .i64 X.m.ct,.int .i64 X.m.gn,.int .i64 X.m.st,.string X.m.bd,.int .i64 X.dl] 58))=w1 at*
    refine (HV.out _ _ H0.out.va).mono ?_
    rintro e w2 ⟨rfl,hb⟩
    have H1:=Lh (H0.out.below hb)
    clear hb
    obtain ⟨x0,x1,x2,x3,x4,x5,x6,x7,xl⟩:=H1.out.le
    go_wp2_with fail
    clear x0 x1 x2 x3 x4 x5 x6 x7 xl
    refine (HLE.out _).mono ?_
    rintro e w3 ⟨rfl,hb⟩
    have H2:=Lh (H1.out.below hb)
    clear hb
    have HS1:=Lh (fun W (z:GrW w p q r s A c l A2 c2 h X W)=>show W.cell? ⟨p,1,none⟩=some (.slice A2 h.length c2)∧W.cell? ⟨s,0,none⟩=some (.int .i64 X.m.id)∧W.cell? ⟨s,1,none⟩=some (.int .i64 X.m.rt)∧W.cell? ⟨s,2,none⟩=some (.int .i64 X.m.ep)∧W.cell? ⟨s,3,none⟩=some (.int .i64 X.m.ct)∧W.cell? ⟨s,4,none⟩=some (.int .i64 X.m.gn)∧W.cell? ⟨s,5,none⟩=some (.int .i64 X.m.st)∧W.cell? ⟨s,6,none⟩=some (.string X.m.bd)∧W.cell? ⟨s,7,none⟩=some (.int .i64 X.dl) from ⟨z.va.tb.2.1,z.le.1,z.le.2.1,z.le.2.2.1,z.le.2.2.2.1,z.le.2.2.2.2.1,z.le.2.2.2.2.2.1,z.le.2.2.2.2.2.2.1,z.le.2.2.2.2.2.2.2.1⟩)
    have HS0:=Lh (fun W (z:GrW w p q r s A c l A2 c2 h X W)=>show W.cell? ⟨p,0,none⟩=some (.slice A l.length c)∧W.cell? ⟨s,0,none⟩=some (.int .i64 X.m.id)∧W.cell? ⟨s,1,none⟩=some (.int .i64 X.m.rt)∧W.cell? ⟨s,2,none⟩=some (.int .i64 X.m.ep)∧W.cell? ⟨s,3,none⟩=some (.int .i64 X.m.ct)∧W.cell? ⟨s,4,none⟩=some (.int .i64 X.m.gn)∧W.cell? ⟨s,5,none⟩=some (.int .i64 X.m.st)∧W.cell? ⟨s,6,none⟩=some (.string X.m.bd)∧W.cell? ⟨s,7,none⟩=some (.int .i64 X.dl) from ⟨z.va.tb.1,z.le.1,z.le.2.1,z.le.2.2.1,z.le.2.2.2.1,z.le.2.2.2.2.1,z.le.2.2.2.2.2.1,z.le.2.2.2.2.2.2.1,z.le.2.2.2.2.2.2.2.1⟩)
    have HT0:=Lh (show w3.drew.cell? ⟨p,1,none⟩=some (.slice A2 h.length c2)∧w3.drew.cell? ⟨s,0,none⟩=some (.int .i64 X.m.id)∧w3.drew.cell? ⟨s,1,none⟩=some (.int .i64 X.m.rt)∧w3.drew.cell? ⟨s,2,none⟩=some (.int .i64 X.m.ep)∧w3.drew.cell? ⟨s,3,none⟩=some (.int .i64 X.m.ct)∧w3.drew.cell? ⟨s,4,none⟩=some (.int .i64 X.m.gn)∧w3.drew.cell? ⟨s,5,none⟩=some (.int .i64 X.m.st)∧w3.drew.cell? ⟨s,6,none⟩=some (.string X.m.bd)∧w3.drew.cell? ⟨s,7,none⟩=some (.int .i64 X.dl) from HS1.out _ (H2.out.below ((Below.refl _ _).drew)))
    have HB3:=Lh (show Below w3.heap.size w3 w3.drew from (Below.refl _ _).drew)
    have HAF:=Lh (fun W (hb:Below w3.heap.size w3 W)=>H2.out.below hb)
    go_wp2_with fail
    go_region_held3 (fun W=>W.cell? ⟨p,1,none⟩=some (.slice A2 h.length c2)∧W.cell? ⟨s,0,none⟩=some (.int .i64 X.m.id)∧W.cell? ⟨s,1,none⟩=some (.int .i64 X.m.rt)∧W.cell? ⟨s,2,none⟩=some (.int .i64 X.m.ep)∧W.cell? ⟨s,3,none⟩=some (.int .i64 X.m.ct)∧W.cell? ⟨s,4,none⟩=some (.int .i64 X.m.gn)∧W.cell? ⟨s,5,none⟩=some (.int .i64 X.m.st)∧W.cell? ⟨s,6,none⟩=some (.string X.m.bd)∧W.cell? ⟨s,7,none⟩=some (.int .i64 X.dl))
     (first | with_reducible exact HT0.out | with_reducible exact HT1.out | with_reducible exact HT2.out)
     (first
     | (go_at_call 99;(with_reducible refine (HDU.out _).mono ?_);rintro e w4 ⟨rfl,hb4⟩;have HB4:=Lh (HB3.out.trans (hb4.mono HB3.out.size));have HT1:=Lh (HS1.out _ (HAF.out _ HB4.out));clear hb4)
     | (go_at_call 98;(with_reducible refine (HPU.out _ _ (HAF.out _ HB4.out).va).mono ?_);rintro e w5 ⟨A5,c5,rfl,hnw,hl5,hb5⟩;have HB5:=Lh (HB4.out.trans (hb5.mono HB4.out.size));have H3:=Lh (HAF.out _ HB5.out);have HT2:=Lh (HS1.out _ H3.out);have HK:=Lh hl5;have HNW:=Lh (nw_low hnw HB4.out.size);clear hnw hl5 hb5))
    obtain ⟨t0,t1,tl⟩:=H3.out.va.tb
    have hq0:=H3.out.mq.1
    go_wp2_with fail
    clear t0 t1 tl hq0
    refine (HP.out _ _ H3.out.va).mono ?_
    rintro e w6 ⟨rfl,hb⟩
    have H4:=Lh (H3.out.below hb)
    have HK:=Lh (HK.out.up hb)
    clear hb
    have HBX:=Lh (show Below w6.heap.size w6 (w6.alloc (.cells #[.int .i64 X.m.id,.int .i64 X.m.rt,.int .i64 X.m.ep,.int .i64 X.m.ct,.int .i64 X.m.gn,.int .i64 X.m.st,.string X.m.bd,.int .i64 X.dl] 58)) from (Below.refl _ _).alloc (Nat.le_refl _) _)
    have HAG:=Lh (fun W (hb:Below w6.heap.size w6 W)=>H4.out.below hb)
    have HVA:=Lh (show VaA w p A c l A2 c2 h w6.drew from (HAG.out _ (Below.refl _ _).drew).va)
    have HVB:=Lh (show VaA w p A c l A2 c2 h ((w6.alloc (.cells #[.int .i64 X.m.id,.int .i64 X.m.rt,.int .i64 X.m.ep,.int .i64 X.m.ct,.int .i64 X.m.gn,.int .i64 X.m.st,.string X.m.bd,.int .i64 X.dl] 58)).drew) from (HAG.out _ HBX.out.drew).va)
    have HT0:=Lh (show w6.drew.cell? ⟨p,0,none⟩=some (.slice A l.length c)∧w6.drew.cell? ⟨s,0,none⟩=some (.int .i64 X.m.id)∧w6.drew.cell? ⟨s,1,none⟩=some (.int .i64 X.m.rt)∧w6.drew.cell? ⟨s,2,none⟩=some (.int .i64 X.m.ep)∧w6.drew.cell? ⟨s,3,none⟩=some (.int .i64 X.m.ct)∧w6.drew.cell? ⟨s,4,none⟩=some (.int .i64 X.m.gn)∧w6.drew.cell? ⟨s,5,none⟩=some (.int .i64 X.m.st)∧w6.drew.cell? ⟨s,6,none⟩=some (.string X.m.bd)∧w6.drew.cell? ⟨s,7,none⟩=some (.int .i64 X.dl) from HS0.out _ (HAG.out _ (Below.refl _ _).drew))
    have HT1:=Lh (show (w6.alloc (.cells #[.int .i64 X.m.id,.int .i64 X.m.rt,.int .i64 X.m.ep,.int .i64 X.m.ct,.int .i64 X.m.gn,.int .i64 X.m.st,.string X.m.bd,.int .i64 X.dl] 58)).drew.cell? ⟨p,0,none⟩=some (.slice A l.length c)∧(w6.alloc (.cells #[.int .i64 X.m.id,.int .i64 X.m.rt,.int .i64 X.m.ep,.int .i64 X.m.ct,.int .i64 X.m.gn,.int .i64 X.m.st,.string X.m.bd,.int .i64 X.dl] 58)).drew.cell? ⟨s,0,none⟩=some (.int .i64 X.m.id)∧(w6.alloc (.cells #[.int .i64 X.m.id,.int .i64 X.m.rt,.int .i64 X.m.ep,.int .i64 X.m.ct,.int .i64 X.m.gn,.int .i64 X.m.st,.string X.m.bd,.int .i64 X.dl] 58)).drew.cell? ⟨s,1,none⟩=some (.int .i64 X.m.rt)∧(w6.alloc (.cells #[.int .i64 X.m.id,.int .i64 X.m.rt,.int .i64 X.m.ep,.int .i64 X.m.ct,.int .i64 X.m.gn,.int .i64 X.m.st,.string X.m.bd,.int .i64 X.dl] 58)).drew.cell? ⟨s,2,none⟩=some (.int .i64 X.m.ep)∧(w6.alloc (.cells #[.int .i64 X.m.id,.int .i64 X.m.rt,.int .i64 X.m.ep,.int .i64 X.m.ct,.int .i64 X.m.gn,.int .i64 X.m.st,.string X.m.bd,.int .i64 X.dl] 58)).drew.cell? ⟨s,3,none⟩=some (.int .i64 X.m.ct)∧(w6.alloc (.cells #[.int .i64 X.m.id,.int .i64 X.m.rt,.int .i64 X.m.ep,.int .i64 X.m.ct,.int .i64 X.m.gn,.int .i64 X.m.st,.string X.m.bd,.int .i64 X.dl] 58)).drew.cell? ⟨s,4,none⟩=some (.int .i64 X.m.gn)∧(w6.alloc (.cells #[.int .i64 X.m.id,.int .i64 X.m.rt,.int .i64 X.m.ep,.int .i64 X.m.ct,.int .i64 X.m.gn,.int .i64 X.m.st,.string X.m.bd,.int .i64 X.dl] 58)).drew.cell? ⟨s,5,none⟩=some (.int .i64 X.m.st)∧(w6.alloc (.cells #[.int .i64 X.m.id,.int .i64 X.m.rt,.int .i64 X.m.ep,.int .i64 X.m.ct,.int .i64 X.m.gn,.int .i64 X.m.st,.string X.m.bd,.int .i64 X.dl] 58)).drew.cell? ⟨s,6,none⟩=some (.string X.m.bd)∧(w6.alloc (.cells #[.int .i64 X.m.id,.int .i64 X.m.rt,.int .i64 X.m.ep,.int .i64 X.m.ct,.int .i64 X.m.gn,.int .i64 X.m.st,.string X.m.bd,.int .i64 X.dl] 58)).drew.cell? ⟨s,7,none⟩=some (.int .i64 X.dl) from HS0.out _ (HAG.out _ HBX.out.drew))
    have HPA:=Lh (fun (w7:World) (v:Value) (ho:w7.ownsRow w6.drew.heap.size 58 8 v l.length (ecs l)) (hb:Below w6.drew.heap.size w6.drew w7)=>show (w7.cell? ⟨p,0,none⟩=some (.slice A l.length c)∧w7.cell? ⟨s,0,none⟩=some (.int .i64 X.m.id)∧w7.cell? ⟨s,1,none⟩=some (.int .i64 X.m.rt)∧w7.cell? ⟨s,2,none⟩=some (.int .i64 X.m.ep)∧w7.cell? ⟨s,3,none⟩=some (.int .i64 X.m.ct)∧w7.cell? ⟨s,4,none⟩=some (.int .i64 X.m.gn)∧w7.cell? ⟨s,5,none⟩=some (.int .i64 X.m.st)∧w7.cell? ⟨s,6,none⟩=some (.string X.m.bd)∧w7.cell? ⟨s,7,none⟩=some (.int .i64 X.dl))∧((w7.alloc (.cells #[.int .i64 X.m.id,.int .i64 X.m.rt,.int .i64 X.m.ep,.int .i64 X.m.ct,.int .i64 X.m.gn,.int .i64 X.m.st,.string X.m.bd,.int .i64 X.dl] 58)).cell? ⟨p,0,none⟩=some (.slice A l.length c)∧(w7.alloc (.cells #[.int .i64 X.m.id,.int .i64 X.m.rt,.int .i64 X.m.ep,.int .i64 X.m.ct,.int .i64 X.m.gn,.int .i64 X.m.st,.string X.m.bd,.int .i64 X.dl] 58)).cell? ⟨s,0,none⟩=some (.int .i64 X.m.id)∧(w7.alloc (.cells #[.int .i64 X.m.id,.int .i64 X.m.rt,.int .i64 X.m.ep,.int .i64 X.m.ct,.int .i64 X.m.gn,.int .i64 X.m.st,.string X.m.bd,.int .i64 X.dl] 58)).cell? ⟨s,1,none⟩=some (.int .i64 X.m.rt)∧(w7.alloc (.cells #[.int .i64 X.m.id,.int .i64 X.m.rt,.int .i64 X.m.ep,.int .i64 X.m.ct,.int .i64 X.m.gn,.int .i64 X.m.st,.string X.m.bd,.int .i64 X.dl] 58)).cell? ⟨s,2,none⟩=some (.int .i64 X.m.ep)∧(w7.alloc (.cells #[.int .i64 X.m.id,.int .i64 X.m.rt,.int .i64 X.m.ep,.int .i64 X.m.ct,.int .i64 X.m.gn,.int .i64 X.m.st,.string X.m.bd,.int .i64 X.dl] 58)).cell? ⟨s,3,none⟩=some (.int .i64 X.m.ct)∧(w7.alloc (.cells #[.int .i64 X.m.id,.int .i64 X.m.rt,.int .i64 X.m.ep,.int .i64 X.m.ct,.int .i64 X.m.gn,.int .i64 X.m.st,.string X.m.bd,.int .i64 X.dl] 58)).cell? ⟨s,4,none⟩=some (.int .i64 X.m.gn)∧(w7.alloc (.cells #[.int .i64 X.m.id,.int .i64 X.m.rt,.int .i64 X.m.ep,.int .i64 X.m.ct,.int .i64 X.m.gn,.int .i64 X.m.st,.string X.m.bd,.int .i64 X.dl] 58)).cell? ⟨s,5,none⟩=some (.int .i64 X.m.st)∧(w7.alloc (.cells #[.int .i64 X.m.id,.int .i64 X.m.rt,.int .i64 X.m.ep,.int .i64 X.m.ct,.int .i64 X.m.gn,.int .i64 X.m.st,.string X.m.bd,.int .i64 X.dl] 58)).cell? ⟨s,6,none⟩=some (.string X.m.bd)∧(w7.alloc (.cells #[.int .i64 X.m.id,.int .i64 X.m.rt,.int .i64 X.m.ep,.int .i64 X.m.ct,.int .i64 X.m.gn,.int .i64 X.m.st,.string X.m.bd,.int .i64 X.dl] 58)).cell? ⟨s,7,none⟩=some (.int .i64 X.dl))∧Below w6.heap.size w6 (w7.alloc (.cells #[.int .i64 X.m.id,.int .i64 X.m.rt,.int .i64 X.m.ep,.int .i64 X.m.ct,.int .i64 X.m.gn,.int .i64 X.m.st,.string X.m.bd,.int .i64 X.dl] 58))∧Calls Tryz.prog 101 #[v,.int .i64 (i:Int),.slice (some ⟨w7.heap.size,0,none⟩) 1 1] (w7.alloc (.cells #[.int .i64 X.m.id,.int .i64 X.m.rt,.int .i64 X.m.ep,.int .i64 X.m.ct,.int .i64 X.m.gn,.int .i64 X.m.st,.string X.m.bd,.int .i64 X.dl] 58)) (InP w6.heap.size l i X (w7.alloc (.cells #[.int .i64 X.m.id,.int .i64 X.m.rt,.int .i64 X.m.ep,.int .i64 X.m.ct,.int .i64 X.m.gn,.int .i64 X.m.st,.string X.m.bd,.int .i64 X.dl] 58))) from by
     have hb1:Below w6.heap.size w6 w7:=drew_bel hb
     have hb2:=hb1.alloc hb1.size (.cells #[.int .i64 X.m.id,.int .i64 X.m.rt,.int .i64 X.m.ep,.int .i64 X.m.ct,.int .i64 X.m.gn,.int .i64 X.m.st,.string X.m.bd,.int .i64 X.dl] 58)
     refine ⟨HS0.out _ (HAG.out _ hb1),HS0.out _ (HAG.out _ hb2),hb2,?_⟩
     exact HIN.out w6.heap.size w7.heap.size v i _ HKL.out (by have:=HL12.out;omega) (ho.alloc _) hb2.size (Rw.fresh w7 _ _) (fun e=>by have:=(ho.lt _ e).2;omega))
    have HPB:=Lh (fun (w7:World) (v:Value) (ho:w7.ownsRow (w6.alloc (.cells #[.int .i64 X.m.id,.int .i64 X.m.rt,.int .i64 X.m.ep,.int .i64 X.m.ct,.int .i64 X.m.gn,.int .i64 X.m.st,.string X.m.bd,.int .i64 X.dl] 58)).drew.heap.size 58 8 v l.length (ecs l)) (hb:Below (w6.alloc (.cells #[.int .i64 X.m.id,.int .i64 X.m.rt,.int .i64 X.m.ep,.int .i64 X.m.ct,.int .i64 X.m.gn,.int .i64 X.m.st,.string X.m.bd,.int .i64 X.dl] 58)).drew.heap.size (w6.alloc (.cells #[.int .i64 X.m.id,.int .i64 X.m.rt,.int .i64 X.m.ep,.int .i64 X.m.ct,.int .i64 X.m.gn,.int .i64 X.m.st,.string X.m.bd,.int .i64 X.dl] 58)).drew w7)=>show (w7.cell? ⟨p,0,none⟩=some (.slice A l.length c)∧w7.cell? ⟨s,0,none⟩=some (.int .i64 X.m.id)∧w7.cell? ⟨s,1,none⟩=some (.int .i64 X.m.rt)∧w7.cell? ⟨s,2,none⟩=some (.int .i64 X.m.ep)∧w7.cell? ⟨s,3,none⟩=some (.int .i64 X.m.ct)∧w7.cell? ⟨s,4,none⟩=some (.int .i64 X.m.gn)∧w7.cell? ⟨s,5,none⟩=some (.int .i64 X.m.st)∧w7.cell? ⟨s,6,none⟩=some (.string X.m.bd)∧w7.cell? ⟨s,7,none⟩=some (.int .i64 X.dl))∧Below w6.heap.size w6 w7∧Calls Tryz.prog 101 #[v,.int .i64 (i:Int),.slice (some ⟨w6.heap.size,0,none⟩) 1 1] w7 (InP w6.heap.size l i X w7) from by
     have hz:(w6.alloc (.cells #[.int .i64 X.m.id,.int .i64 X.m.rt,.int .i64 X.m.ep,.int .i64 X.m.ct,.int .i64 X.m.gn,.int .i64 X.m.st,.string X.m.bd,.int .i64 X.dl] 58)).heap.size=w6.heap.size+1:=by simp
     have hb1:Below (w6.alloc (.cells #[.int .i64 X.m.id,.int .i64 X.m.rt,.int .i64 X.m.ep,.int .i64 X.m.ct,.int .i64 X.m.gn,.int .i64 X.m.st,.string X.m.bd,.int .i64 X.dl] 58)).heap.size (w6.alloc (.cells #[.int .i64 X.m.id,.int .i64 X.m.rt,.int .i64 X.m.ep,.int .i64 X.m.ct,.int .i64 X.m.gn,.int .i64 X.m.st,.string X.m.bd,.int .i64 X.dl] 58)) w7:=drew_bel hb
     have hb2:Below w6.heap.size w6 w7:=HBX.out.trans (hb1.mono HBX.out.size)
     refine ⟨HS0.out _ (HAG.out _ hb2),hb2,?_⟩
     have ho' : w7.ownsRow (w6.heap.size+1) 58 8 v l.length (ecs l):=by rw [←hz];exact ho
     exact HIN.out w6.heap.size w6.heap.size v i _ HKL.out (by have:=HL12.out;omega) (own_low ho' (by omega)) hb2.size ((Rw.fresh w6 _ _).below hb1 (by rw [hz];omega)) (fun e=>by have:=(ho'.lt _ e).1;omega))
    have HSE:=Lh (fun (w8:World) (v v2:Value) (k:w8.cell? ⟨p,0,none⟩=some (.slice A l.length c)∧w8.cell? ⟨s,0,none⟩=some (.int .i64 X.m.id)∧w8.cell? ⟨s,1,none⟩=some (.int .i64 X.m.rt)∧w8.cell? ⟨s,2,none⟩=some (.int .i64 X.m.ep)∧w8.cell? ⟨s,3,none⟩=some (.int .i64 X.m.ct)∧w8.cell? ⟨s,4,none⟩=some (.int .i64 X.m.gn)∧w8.cell? ⟨s,5,none⟩=some (.int .i64 X.m.st)∧w8.cell? ⟨s,6,none⟩=some (.string X.m.bd)∧w8.cell? ⟨s,7,none⟩=some (.int .i64 X.dl))=>show (set2 w8 r v v2).cell? ⟨p,0,none⟩=some (.slice A l.length c)∧(set2 w8 r v v2).cell? ⟨s,0,none⟩=some (.int .i64 X.m.id)∧(set2 w8 r v v2).cell? ⟨s,1,none⟩=some (.int .i64 X.m.rt)∧(set2 w8 r v v2).cell? ⟨s,2,none⟩=some (.int .i64 X.m.ep)∧(set2 w8 r v v2).cell? ⟨s,3,none⟩=some (.int .i64 X.m.ct)∧(set2 w8 r v v2).cell? ⟨s,4,none⟩=some (.int .i64 X.m.gn)∧(set2 w8 r v v2).cell? ⟨s,5,none⟩=some (.int .i64 X.m.st)∧(set2 w8 r v v2).cell? ⟨s,6,none⟩=some (.string X.m.bd)∧(set2 w8 r v v2).cell? ⟨s,7,none⟩=some (.int .i64 X.dl) from by
     have h1:p≠r:=by have:=H1.out.ne;omega
     have h2:s≠r:=by have:=H1.out.ne;omega
     exact ⟨(set2_far h1).trans k.1,(set2_far h2).trans k.2.1,(set2_far h2).trans k.2.2.1,(set2_far h2).trans k.2.2.2.1,(set2_far h2).trans k.2.2.2.2.1,(set2_far h2).trans k.2.2.2.2.2.1,(set2_far h2).trans k.2.2.2.2.2.2.1,(set2_far h2).trans k.2.2.2.2.2.2.2.1,(set2_far h2).trans k.2.2.2.2.2.2.2.2⟩)
    have HLX:=Lh (show (l.take i++X::l.drop i).length=l.length+1 by have:=HKL.out;simp;omega)
    have HFF:=Lh (fun (w8:World) (A8:Option Addr) (c8:Nat) (ho:w8.ownsRow w6.heap.size 58 8 (.slice A8 (l.length+1) c8) (l.length+1) (ecs (l.take i++X::l.drop i))) (hb:Below w6.heap.size w6 w8)=>show TE w (l.take i++X::l.drop i) K 0 (.returned (.tuple #[.agg #[.slice A8 (l.length+1) c8,.slice A5 K.length c5],.int .i64 0])) (set2 w8 r (.slice A8 (l.length+1) c8) (.slice A5 K.length c5)) from by
     have hn:Nw w6.heap.size A8:=nwv_of (nwv_own ho (Nat.le_refl _))
     refine ⟨A8,c8,A5,c5,by rw [HLX.out],nw_low hn H4.out.va.bel.size,nw_low HNW.out H2.out.va.bel.size,?_,?_,set2_below (H4.out.va.bel.trans (hb.mono H4.out.va.bel.size)) (by have:=H1.out.ne;omega)⟩
     ·rw [HLX.out];exact ((El.of_own ho).set2 hn H4.out.rt.lt).more (by simp)
     ·exact ((HK.out.below hb).set2 HNW.out H2.out.rt.lt).more (by have:=hb.size;simp;omega))
    go_wp2_with fail
    go_region_held3 (fun W=>W.cell? ⟨p,0,none⟩=some (.slice A l.length c)∧W.cell? ⟨s,0,none⟩=some (.int .i64 X.m.id)∧W.cell? ⟨s,1,none⟩=some (.int .i64 X.m.rt)∧W.cell? ⟨s,2,none⟩=some (.int .i64 X.m.ep)∧W.cell? ⟨s,3,none⟩=some (.int .i64 X.m.ct)∧W.cell? ⟨s,4,none⟩=some (.int .i64 X.m.gn)∧W.cell? ⟨s,5,none⟩=some (.int .i64 X.m.st)∧W.cell? ⟨s,6,none⟩=some (.string X.m.bd)∧W.cell? ⟨s,7,none⟩=some (.int .i64 X.dl))
     (first | with_reducible exact HT0.out | with_reducible exact HT1.out | with_reducible exact HT2.out | with_reducible exact HT3.out | with_reducible exact HT4.out | with_reducible exact HT5.out)
     (first
     | (go_at_call 102;(with_reducible refine (HCL.out _ _ HVA.out).mono ?_);rintro e w7 ⟨v,rfl,ho,hb⟩;obtain ⟨k2,k3,kb,kc⟩:=HPA.out _ _ ho hb;have HT2:=Lh k2;have HT3:=Lh k3;have HBW:=Lh kb;have HIC:=Lh kc;clear ho hb k2 k3 kb kc)
     | (go_at_call 102;(with_reducible refine (HCL.out _ _ HVB.out).mono ?_);rintro e w7 ⟨v,rfl,ho,hb⟩;obtain ⟨k3,kb,kc⟩:=HPB.out _ _ ho hb;have HT3:=Lh k3;have HBW:=Lh kb;have HIC:=Lh kc;clear ho hb k3 kb kc)
     | (go_at_call 101;(with_reducible refine HIC.out.mono ?_);rintro e w8 ⟨A8,c8,rfl,ho8,hb8⟩;have HB8:=Lh (HBW.out.trans hb8);have H8:=Lh (HAG.out _ HB8.out);have HT4:=Lh (HS0.out _ H8.out);have HT5:=Lh (HSE.out _ (.slice A8 (l.length+1) c8) (.slice A5 K.length c5) HT4.out);have HF:=Lh (HFF.out _ _ _ ho8 HB8.out);obtain ⟨r0,r1,f0,f1,rl⟩:=H8.out.rt;clear ho8 hb8))
    all_goals
     go_wp2
     exact bodyPost_ret (v:=.tuple #[.agg #[.slice A8 (l.length+1) c8,.slice A5 K.length c5],.int .i64 0]) (by simp only [results,Tryz.results49];go_simp <;> rfl) rfl HF.out
   ·have HN:=Lh (grE_ne (l:=l) (h:=h) (x:=X) h3)
    have hne:(grE l h X != 0)=true:=bne_iff_ne.2 h3
    rw [HN.out.1,HN.out.2]
    generalize puR h X.du=K at*
    generalize grE l h X=x at*
    clear h1 h2 h3 hpe HN
    go_enter Tryz.func49,Tryz.ntmps49
    obtain ⟨t0,t1,tl⟩:=H0.out.va.tb
    go_wp2_with fail
    clear t0 t1 tl
    obtain ⟨p,hp⟩:∃ p,p=w.heap.size:=⟨_,rfl⟩
    obtain ⟨q,hq⟩:∃ q,q=w.heap.size+1:=⟨_,rfl⟩
    obtain ⟨r,hr⟩:∃ r,r=w.heap.size+1+1:=⟨_,rfl⟩
    obtain ⟨s,hs⟩:∃ s,s=w.heap.size+1+1+1:=⟨_,rfl⟩
    rw [←hs,←hr,←hq,←hp] at H0
    rw [←hs,←hr,←hq,←hp]
    clear hp hq hr hs
    generalize ((((w.alloc (.cells #[.slice A l.length c,.slice A2 h.length c2] 31)).alloc (.cells #[.int .i64 X.m.id,.int .i64 X.m.rt,.int .i64 X.m.ep,.int .i64 X.m.ct,.int .i64 X.m.gn,.int .i64 X.m.st,.string X.m.bd] 56)).alloc (.cells #[.slice none 0 0,.slice none 0 0] 31)).alloc (.cells #[.int .i64 X.m.id,.int .i64 X.m.rt,.int .i64 X.m.ep,.int .i64 X.m.ct,.int .i64 X.m.gn,.int .i64 X.m.st,.string X.m.bd,.int .i64 X.dl] 58))=w1 at*
    refine (HV.out _ _ H0.out.va).mono ?_
    rintro e w2 ⟨rfl,hb⟩
    have H1:=Lh (H0.out.below hb)
    clear hb
    obtain ⟨x0,x1,x2,x3,x4,x5,x6,x7,xl⟩:=H1.out.le
    go_wp2_with fail
    clear x0 x1 x2 x3 x4 x5 x6 x7 xl
    refine (HLE.out _).mono ?_
    rintro e w3 ⟨rfl,hb⟩
    have H2:=Lh (H1.out.below hb)
    clear hb
    have HS1:=Lh (fun W (z:GrW w p q r s A c l A2 c2 h X W)=>show W.cell? ⟨p,1,none⟩=some (.slice A2 h.length c2)∧W.cell? ⟨s,0,none⟩=some (.int .i64 X.m.id)∧W.cell? ⟨s,1,none⟩=some (.int .i64 X.m.rt)∧W.cell? ⟨s,2,none⟩=some (.int .i64 X.m.ep)∧W.cell? ⟨s,3,none⟩=some (.int .i64 X.m.ct)∧W.cell? ⟨s,4,none⟩=some (.int .i64 X.m.gn)∧W.cell? ⟨s,5,none⟩=some (.int .i64 X.m.st)∧W.cell? ⟨s,6,none⟩=some (.string X.m.bd)∧W.cell? ⟨s,7,none⟩=some (.int .i64 X.dl) from ⟨z.va.tb.2.1,z.le.1,z.le.2.1,z.le.2.2.1,z.le.2.2.2.1,z.le.2.2.2.2.1,z.le.2.2.2.2.2.1,z.le.2.2.2.2.2.2.1,z.le.2.2.2.2.2.2.2.1⟩)
    have HT0:=Lh (show w3.drew.cell? ⟨p,1,none⟩=some (.slice A2 h.length c2)∧w3.drew.cell? ⟨s,0,none⟩=some (.int .i64 X.m.id)∧w3.drew.cell? ⟨s,1,none⟩=some (.int .i64 X.m.rt)∧w3.drew.cell? ⟨s,2,none⟩=some (.int .i64 X.m.ep)∧w3.drew.cell? ⟨s,3,none⟩=some (.int .i64 X.m.ct)∧w3.drew.cell? ⟨s,4,none⟩=some (.int .i64 X.m.gn)∧w3.drew.cell? ⟨s,5,none⟩=some (.int .i64 X.m.st)∧w3.drew.cell? ⟨s,6,none⟩=some (.string X.m.bd)∧w3.drew.cell? ⟨s,7,none⟩=some (.int .i64 X.dl) from HS1.out _ (H2.out.below ((Below.refl _ _).drew)))
    have HB3:=Lh (show Below w3.heap.size w3 w3.drew from (Below.refl _ _).drew)
    have HAF:=Lh (fun W (hb:Below w3.heap.size w3 W)=>H2.out.below hb)
    go_wp2_with fail
    go_region_held3 (fun W=>W.cell? ⟨p,1,none⟩=some (.slice A2 h.length c2)∧W.cell? ⟨s,0,none⟩=some (.int .i64 X.m.id)∧W.cell? ⟨s,1,none⟩=some (.int .i64 X.m.rt)∧W.cell? ⟨s,2,none⟩=some (.int .i64 X.m.ep)∧W.cell? ⟨s,3,none⟩=some (.int .i64 X.m.ct)∧W.cell? ⟨s,4,none⟩=some (.int .i64 X.m.gn)∧W.cell? ⟨s,5,none⟩=some (.int .i64 X.m.st)∧W.cell? ⟨s,6,none⟩=some (.string X.m.bd)∧W.cell? ⟨s,7,none⟩=some (.int .i64 X.dl))
     (first | with_reducible exact HT0.out | with_reducible exact HT1.out | with_reducible exact HT2.out)
     (first
     | (go_at_call 99;(with_reducible refine (HDU.out _).mono ?_);rintro e w4 ⟨rfl,hb4⟩;have HB4:=Lh (HB3.out.trans (hb4.mono HB3.out.size));have HT1:=Lh (HS1.out _ (HAF.out _ HB4.out));clear hb4)
     | (go_at_call 98;(with_reducible refine (HPU.out _ _ (HAF.out _ HB4.out).va).mono ?_);rintro e w5 ⟨A5,c5,rfl,hnw,hl5,hb5⟩;have HB5:=Lh (HB4.out.trans (hb5.mono HB4.out.size));have H3:=Lh (HAF.out _ HB5.out);have HT2:=Lh (HS1.out _ H3.out);have HK:=Lh hl5;have HNW:=Lh (nw_low hnw HB4.out.size);clear hnw hl5 hb5))
    obtain ⟨r0,r1,f0,f1,rl⟩:=H3.out.rt
    have HB:=Lh (show Below w.heap.size w (set2 w5 r (.slice none 0 0) (.slice none 0 0)) from set2_below H3.out.va.bel (by have:=H3.out.ne;omega))
    go_wp2
    exact bodyPost_ret (v:=.tuple #[.agg #[.slice none 0 0,.slice none 0 0],.int .i64 x]) (by simp only [results,Tryz.results49];go_simp <;> rfl) rfl (te_nil rfl rfl rfl HB.out)
  ·have HN:=Lh (grE_ne (l:=l) (h:=h) (x:=X) (by rw [grE_le h1 h2];exact h2))
   have hne:(leE X != 0)=true:=bne_iff_ne.2 h2
   rw [HN.out.1,HN.out.2,grE_le h1 h2]
   clear h1 h2
   generalize leE X=x at*
   go_enter Tryz.func49,Tryz.ntmps49
   obtain ⟨t0,t1,tl⟩:=H0.out.va.tb
   go_wp2_with fail
   clear t0 t1 tl
   obtain ⟨p,hp⟩:∃ p,p=w.heap.size:=⟨_,rfl⟩
   obtain ⟨q,hq⟩:∃ q,q=w.heap.size+1:=⟨_,rfl⟩
   obtain ⟨r,hr⟩:∃ r,r=w.heap.size+1+1:=⟨_,rfl⟩
   obtain ⟨s,hs⟩:∃ s,s=w.heap.size+1+1+1:=⟨_,rfl⟩
   rw [←hs,←hr,←hq,←hp] at H0
   rw [←hs,←hr,←hq,←hp]
   clear hp hq hr hs
   generalize ((((w.alloc (.cells #[.slice A l.length c,.slice A2 h.length c2] 31)).alloc (.cells #[.int .i64 X.m.id,.int .i64 X.m.rt,.int .i64 X.m.ep,.int .i64 X.m.ct,.int .i64 X.m.gn,.int .i64 X.m.st,.string X.m.bd] 56)).alloc (.cells #[.slice none 0 0,.slice none 0 0] 31)).alloc (.cells #[.int .i64 X.m.id,.int .i64 X.m.rt,.int .i64 X.m.ep,.int .i64 X.m.ct,.int .i64 X.m.gn,.int .i64 X.m.st,.string X.m.bd,.int .i64 X.dl] 58))=w1 at*
   refine (HV.out _ _ H0.out.va).mono ?_
   rintro e w2 ⟨rfl,hb⟩
   have H1:=Lh (H0.out.below hb)
   clear hb
   obtain ⟨x0,x1,x2,x3,x4,x5,x6,x7,xl⟩:=H1.out.le
   go_wp2_with fail
   clear x0 x1 x2 x3 x4 x5 x6 x7 xl
   refine (HLE.out _).mono ?_
   rintro e w3 ⟨rfl,hb⟩
   have H2:=Lh (H1.out.below hb)
   clear hb
   obtain ⟨r0,r1,f0,f1,rl⟩:=H2.out.rt
   have HB:=Lh (show Below w.heap.size w (set2 w3 r (.slice none 0 0) (.slice none 0 0)) from set2_below H2.out.va.bel (by have:=H2.out.ne;omega))
   go_wp2
   exact bodyPost_ret (v:=.tuple #[.agg #[.slice none 0 0,.slice none 0 0],.int .i64 x]) (by simp only [results,Tryz.results49];go_simp <;> rfl) rfl (te_nil rfl rfl rfl HB.out)
 ·have HN:=Lh (grE_ne (l:=l) (h:=h) (x:=X) (by rw [grE_tb h1];exact h1))
  have hne:(tbV l h != 0)=true:=bne_iff_ne.2 h1
  rw [HN.out.1,HN.out.2,grE_tb h1]
  clear h1
  generalize tbV l h=x at*
  go_enter Tryz.func49,Tryz.ntmps49
  obtain ⟨t0,t1,tl⟩:=H0.out.va.tb
  go_wp2_with fail
  clear t0 t1 tl
  obtain ⟨p,hp⟩:∃ p,p=w.heap.size:=⟨_,rfl⟩
  obtain ⟨q,hq⟩:∃ q,q=w.heap.size+1:=⟨_,rfl⟩
  obtain ⟨r,hr⟩:∃ r,r=w.heap.size+1+1:=⟨_,rfl⟩
  obtain ⟨s,hs⟩:∃ s,s=w.heap.size+1+1+1:=⟨_,rfl⟩
  rw [←hs,←hr,←hq,←hp] at H0
  rw [←hs,←hr,←hq,←hp]
  clear hp hq hr hs
  generalize ((((w.alloc (.cells #[.slice A l.length c,.slice A2 h.length c2] 31)).alloc (.cells #[.int .i64 X.m.id,.int .i64 X.m.rt,.int .i64 X.m.ep,.int .i64 X.m.ct,.int .i64 X.m.gn,.int .i64 X.m.st,.string X.m.bd] 56)).alloc (.cells #[.slice none 0 0,.slice none 0 0] 31)).alloc (.cells #[.int .i64 X.m.id,.int .i64 X.m.rt,.int .i64 X.m.ep,.int .i64 X.m.ct,.int .i64 X.m.gn,.int .i64 X.m.st,.string X.m.bd,.int .i64 X.dl] 58))=w1 at*
  refine (HV.out _ _ H0.out.va).mono ?_
  rintro e w2 ⟨rfl,hb⟩
  have H1:=Lh (H0.out.below hb)
  clear hb
  obtain ⟨r0,r1,f0,f1,rl⟩:=H1.out.rt
  have HB:=Lh (show Below w.heap.size w (set2 w2 r (.slice none 0 0) (.slice none 0 0)) from set2_below H1.out.va.bel (by have:=H1.out.ne;omega))
  go_wp2
  exact bodyPost_ret (v:=.tuple #[.agg #[.slice none 0 0,.slice none 0 0],.int .i64 x]) (by simp only [results,Tryz.results49];go_simp <;> rfl) rfl (te_nil rfl rfl rfl HB.out)
def tkB (mx now vis ep lim:Int):Bool:=wi now 0 1073741824&&(wi vis 0 1000&&(wi ep 0 65536&&(wi lim 1 8&&wi mx 1 6)))
noncomputable def tkE (S:Sh) (mx now vis ep lim:Int):Int:=if exS S (tkB mx now vis ep lim)≠0 then exS S (tkB mx now vis ep lim) else if 1073741824<now+vis then 6 else 0
def SLe (w:World) (S:Sh) (l:List Le) (x:Int) (e:Ending) (w' : World):Prop:=∃ D A c,e=.returned (.tuple #[sv S D,.slice A l.length c,.int .i64 x])∧D.nw w.heap.size∧SR w' w'.heap.size S D∧Nw w.heap.size A∧El w' w'.heap.size (.slice A l.length c) l∧Below w.heap.size w w'
theorem sle_zero {w w' : World} {x:Int} {r:Nat} (hr:w.heap.size≤r) (hb:Below w.heap.size w w'):SLe w zS [] x (.returned (.tuple #[.agg #[.bool false,.int .i64 0,.int .i64 0,.slice none 0 0,.int .i64 0,.int .i64 0,.slice none 0 0,.slice none 0 0],.slice none 0 0,.int .i64 x])) (z8 w' r):=
 ⟨zX,none,0,rfl,zX_nw _,SR.zero,nw_none,El.nil,set8s_below hr hb zS zX⟩
theorem nl_five (w:World) (a b c d e:Rn) (t:TypeId):Nl (w.alloc (.cells #[.int .i64 a.n,.int .i64 a.lo,.int .i64 a.hi,.int .i64 b.n,.int .i64 b.lo,.int .i64 b.hi,.int .i64 c.n,.int .i64 c.lo,.int .i64 c.hi,.int .i64 d.n,.int .i64 d.lo,.int .i64 d.hi,.int .i64 e.n,.int .i64 e.lo,.int .i64 e.hi] t)) (w.heap.size+1) (.slice (some ⟨w.heap.size,0,none⟩) 5 5) [a,b,c,d,e]:=by
 refine ⟨_,5,rfl,Nat.le_refl _,by unfold maxLen;omega,by simp [rcs,Rn.l],fun _=>⟨w.heap.size,0,rfl,Nat.lt_succ_self _,fun j u hu=>?_⟩⟩
 rw [Nat.zero_add,World.cell?_alloc_new]
 simpa [rcs,Rn.l] using hu
structure TqAt (w:World) (p b1 b2 r:Nat) (S:Sh) (D:Sx) (ep lim:Int) (W:World):Prop where
 sa:SAt w p S D W
 cap:CapAt b1 b2 ep lim W
 rs:SB8 W r zS zX
 ne:p<b1∧b1<b2∧b2<r
abbrev TqK (p b1 b2:Nat) (S:Sh) (D:Sx) (ep lim:Int) (W:World):Prop:=K8 p S D W∧W.cell? ⟨b1,0,none⟩=some (.int .i64 ep)∧W.cell? ⟨b2,0,none⟩=some (.int .i64 lim)
section
variable {w W W' : World} {p b1 b2 r:Nat} {S:Sh} {D:Sx} {ep lim:Int}
theorem TqAt.below (h:TqAt w p b1 b2 r S D ep lim W) (hb:Below W.heap.size W W'):TqAt w p b1 b2 r S D ep lim W':=⟨h.sa.below hb,h.cap.below hb,h.rs.up hb,h.ne⟩
theorem TqAt.alloc (h:TqAt w p b1 b2 r S D ep lim W) (o:Obj):TqAt w p b1 b2 r S D ep lim (W.alloc o):=h.below ((Below.refl _ _).alloc (Nat.le_refl _) o)
theorem TqAt.drew (h:TqAt w p b1 b2 r S D ep lim W):TqAt w p b1 b2 r S D ep lim W.drew:=h.below ((Below.refl _ _).drew)
theorem TqAt.k (h:TqAt w p b1 b2 r S D ep lim W):TqK p b1 b2 S D ep lim W:=⟨h.sa.k8,h.cap.1,h.cap.2.1⟩
theorem TqAt.start (w:World) (S:Sh) (D:Sx) (ep lim:Int) (t u:TypeId) (hs:SR w w.heap.size S D):TqAt w w.heap.size (w.heap.size+1) (w.heap.size+1+1) (w.heap.size+1+1+1) S D ep lim ((((w.alloc (.cells #[.bool S.lv,.int .i64 S.lo,.int .i64 S.hi,.slice D.A S.cs.length D.c,.int .i64 S.hd,.int .i64 S.sz,.slice D.A2 S.l.length D.c2,.slice D.A3 S.h.length D.c3] t)).alloc (.cells #[.int .i64 ep] u)).alloc (.cells #[.int .i64 lim] u)).alloc (.cells #[.bool false,.int .i64 0,.int .i64 0,.slice none 0 0,.int .i64 0,.int .i64 0,.slice none 0 0,.slice none 0 0] t)):=by
 have h:=SB8.zero (((w.alloc (.cells #[.bool S.lv,.int .i64 S.lo,.int .i64 S.hi,.slice D.A S.cs.length D.c,.int .i64 S.hd,.int .i64 S.sz,.slice D.A2 S.l.length D.c2,.slice D.A3 S.h.length D.c3] t)).alloc (.cells #[.int .i64 ep] u)).alloc (.cells #[.int .i64 lim] u)) t
 rw [show (((w.alloc (.cells #[.bool S.lv,.int .i64 S.lo,.int .i64 S.hi,.slice D.A S.cs.length D.c,.int .i64 S.hd,.int .i64 S.sz,.slice D.A2 S.l.length D.c2,.slice D.A3 S.h.length D.c3] t)).alloc (.cells #[.int .i64 ep] u)).alloc (.cells #[.int .i64 lim] u)).heap.size=w.heap.size+1+1+1 by simp] at h
 exact ⟨(((SAt.start t hs).alloc _).alloc _).alloc _,⟨by simp [go_sem,World.cell?_alloc_past],by simp [go_sem,World.cell?_alloc_past],by simp,by simp⟩,h,by omega,by omega,by omega⟩
end
set_option maxHeartbeats 8000000 in
set_option maxRecDepth 20000 in
theorem stake_bad (S:Sh) (D:Sx) (mx now vis ep lim:Int) (w:World) (hs:SR w w.heap.size S D) (hE:tkE S mx now vis ep lim≠0) :
  Calls Tryz.prog 15 #[sv S D,.int .i64 mx,.int .i64 now,.int .i64 vis,.int .i64 ep,.int .i64 lim] w (SLe w zS [] (tkE S mx now vis ep lim)):=by
 have H0:=Lh (TqAt.start w S D ep lim 33 3 hs)
 have HV:=Lh (fun A c p W (k:SAt w p S D W) (hn:Nl W W.heap.size (.slice A 5 c) [⟨now,0,1073741824⟩,⟨vis,0,1000⟩,⟨ep,0,65536⟩,⟨lim,1,8⟩,⟨mx,1,6⟩])=>sexam_any S D A 5 c [⟨now,0,1073741824⟩,⟨vis,0,1000⟩,⟨ep,0,65536⟩,⟨lim,1,8⟩,⟨mx,1,6⟩] W k.sr hn)
 have HE:([⟨now,0,1073741824⟩,⟨vis,0,1000⟩,⟨ep,0,65536⟩,⟨lim,1,8⟩,⟨mx,1,6⟩]:List Rn).all Rn.ok=tkB mx now vis ep lim:=by simp [Rn.ok,tkB]
 rw [HE] at HV
 clear HE hs
 have HT:=Lh (fun W=>atime_any now W)
 have HVI:=Lh (fun W=>avis_any vis W)
 have HP:=Lh (fun W=>aepoch_any ep W)
 have HL:=Lh (fun W=>alimit_any lim W)
 have HEE:=Lh hE
 have HDD:Hid (tkE S mx now vis ep lim=if exS S (tkB mx now vis ep lim)≠0 then exS S (tkB mx now vis ep lim) else if 1073741824<now+vis then 6 else 0):=Lh rfl
 have HZB:=Lh (fun h:exS S (tkB mx now vis ep lim)=0=>(exS_zero h).2.2)
 clear hE
 generalize tkE S mx now vis ep lim=x at*
 generalize exS S (tkB mx now vis ep lim)=z at*
 go_enter Tryz.func15,Tryz.ntmps15
 obtain ⟨p,hp⟩:∃ p,p=w.heap.size:=⟨_,rfl⟩
 obtain ⟨b1,hb1⟩:∃ p,p=w.heap.size+1:=⟨_,rfl⟩
 obtain ⟨b2,hb2⟩:∃ p,p=w.heap.size+1+1:=⟨_,rfl⟩
 obtain ⟨r,hr⟩:∃ p,p=w.heap.size+1+1+1:=⟨_,rfl⟩
 go_upto_region 1 with (fail)
 rw [←hr,←hb2,←hb1,←hp]
 rw [←hr,←hb2,←hb1,←hp] at H0
 clear hp hb1 hb2 hr
 generalize ((((w.alloc (.cells #[.bool S.lv,.int .i64 S.lo,.int .i64 S.hi,.slice D.A S.cs.length D.c,.int .i64 S.hd,.int .i64 S.sz,.slice D.A2 S.l.length D.c2,.slice D.A3 S.h.length D.c3] 33)).alloc (.cells #[.int .i64 ep] 3)).alloc (.cells #[.int .i64 lim] 3)).alloc (.cells #[.bool false,.int .i64 0,.int .i64 0,.slice none 0 0,.int .i64 0,.int .i64 0,.slice none 0 0,.slice none 0 0] 33))=w1 at*
 have HD:=Lh H0.out.drew
 have HT0:=Lh (show TqK p b1 b2 S D ep lim w1.drew from HD.out.k)
 go_region_held3 (fun W=>TqK p b1 b2 S D ep lim W)
  (first | with_reducible exact HT0.out | with_reducible exact HT1.out | with_reducible exact HT2.out | with_reducible exact HT3.out | with_reducible exact HT4.out | with_reducible exact HT5.out | with_reducible exact HT6.out)
  (first
  | (go_at_call 41;(with_reducible refine (HT.out _).mono ?_);rintro e w2 ⟨rfl,hb⟩;have HA1:=Lh (HD.out.below hb);have HT1:=Lh HA1.out.k;clear hb)
  | (go_at_call 42;(with_reducible refine (HVI.out _).mono ?_);rintro e w3 ⟨rfl,hb⟩;have HA2:=Lh (HA1.out.below hb);have HT2:=Lh HA2.out.k;clear hb)
  | (go_at_call 43;(with_reducible refine (HP.out _).mono ?_);rintro e w4 ⟨rfl,hb⟩;have HA3:=Lh (HA2.out.below hb);have HT3:=Lh HA3.out.k;clear hb)
  | (go_at_call 44;(with_reducible refine (HL.out _).mono ?_);rintro e w5 ⟨rfl,hb⟩;have HA4:=Lh (HA3.out.below hb);have HT4:=Lh HA4.out.k;have HA5:=Lh (HA4.out.alloc (.cells #[.int .i64 now,.int .i64 0,.int .i64 1073741824,.int .i64 vis,.int .i64 0,.int .i64 1000,.int .i64 ep,.int .i64 0,.int .i64 65536,.int .i64 lim,.int .i64 1,.int .i64 8,.int .i64 mx,.int .i64 1,.int .i64 6] 82));have HT5:=Lh HA5.out.k;have HNL:=Lh (nl_five w5 ⟨now,0,1073741824⟩ ⟨vis,0,1000⟩ ⟨ep,0,65536⟩ ⟨lim,1,8⟩ ⟨mx,1,6⟩ 82);clear hb)
  | (go_at_call 40;(with_reducible refine (HV.out _ _ _ _ HA5.out.sa ?_).mono ?_);(have:=HNL.out;simpa using this);rintro e w6 ⟨rfl,hb⟩;have HA6:=Lh (HA5.out.below hb);have HT6:=Lh HA6.out.k;clear hb))
 have HRW:=Lh (show w.heap.size≤r by have:=HA6.out.sa.old;have:=HA6.out.ne;omega)
 obtain ⟨⟨r0,r1,r2,r3,r4,r5,r6,r7,rl⟩,⟨g0,g1,g2,g3,g4,g5,g6,g7⟩⟩:=HA6.out.rs.all
 by_cases hz:z=0
 ·have HZ0:=Lh (HZB.out hz)
  have hx6:1073741824<now+vis:=by
   have h1:=HDD.out
   rw [if_neg (fun g=>g hz)] at h1
   by_cases h:1073741824<now+vis
   ·exact h
   ·rw [if_neg h] at h1;exact absurd h1 HEE.out
  have HX:=Lh (show x=6 by rw [HDD.out,if_neg (fun g=>g hz),if_pos hx6])
  subst hz
  have hw:wrap64 (now+vis)=now+vis:=by
   have h:=HZ0.out
   unfold tkB at h
   simp only [Bool.and_eq_true] at h
   have h1:=wi_of h.1
   have h2:=wi_of h.2.1
   exact IntWalk.wrap64_in _ (by omega)
  have HF:=Lh (show SLe w zS [] x (.returned (.tuple #[.agg #[.bool false,.int .i64 0,.int .i64 0,.slice none 0 0,.int .i64 0,.int .i64 0,.slice none 0 0,.slice none 0 0],.slice none 0 0,.int .i64 6])) (z8 w6 r) from by rw [HX.out];exact sle_zero HRW.out HA6.out.sa.bel)
  go_wp2
  exact bodyPost_ret (v:=.tuple #[.agg #[.bool false,.int .i64 0,.int .i64 0,.slice none 0 0,.int .i64 0,.int .i64 0,.slice none 0 0,.slice none 0 0],.slice none 0 0,.int .i64 6]) (by simp only [results,Tryz.results15];go_simp <;> rfl) rfl HF.out
 ·have hne:(z != 0)=true:=bne_iff_ne.2 hz
  have HX:=Lh (show x=z by rw [HDD.out,if_pos hz])
  clear hz
  have HF:=Lh (show SLe w zS [] x (.returned (.tuple #[.agg #[.bool false,.int .i64 0,.int .i64 0,.slice none 0 0,.int .i64 0,.int .i64 0,.slice none 0 0,.slice none 0 0],.slice none 0 0,.int .i64 z])) (z8 w6 r) from by rw [HX.out];exact sle_zero HRW.out HA6.out.sa.bel)
  go_wp2
  exact bodyPost_ret (v:=.tuple #[.agg #[.bool false,.int .i64 0,.int .i64 0,.slice none 0 0,.int .i64 0,.int .i64 0,.slice none 0 0,.slice none 0 0],.slice none 0 0,.int .i64 z]) (by simp only [results,Tryz.results15];go_simp <;> rfl) rfl HF.out
end Go.Proofs.YtncgbldcjfbknaaGreat
