/- What is proved here: parts of the proof: Kva Qnd Qkd Qcs Qce Qcd. -/
import Derived.Test.YtkecnihgjepfeaaGreatJ27
namespace Go.Proofs.YtkecnihgjepfeaaGreat
open Go.RowKit
set_option linter.unusedVariables false
set_option linter.unusedSimpArgs false
set_option maxHeartbeats 8000000
set_option maxRecDepth 20000
theorem iscap8_any (n:Int) (w:World):Calls Tryz.prog 42 #[.int .i64 n] w fun e w'=>e=.returned (.bool (wi n 1 24))/\w=w':=by
 by_cases h1:1<=n
 ·by_cases h2:n<=24
  ·have HF:=Lh (wi_true h1 h2)
   go_enter Tryz.func42,Tryz.ntmps42
   go_wp2
   go_ret
   exact ⟨by rw [HF.out];rfl,rfl⟩
  ·have HF:=Lh (wi_high (lo:=1) (show (24:Int)<n by omega))
   go_enter Tryz.func42,Tryz.ntmps42
   go_wp2
   go_ret
   exact ⟨by rw [HF.out];rfl,rfl⟩
 ·have HF:=Lh (wi_low (hi:=24) (show n<1 by omega))
  go_enter Tryz.func42,Tryz.ntmps42
  go_wp2
  go_ret
  exact ⟨by rw [HF.out];rfl,rfl⟩
def nw8 (n:Int):Int:=if wi n 1 24=true then n else 0
def nw8E (n:Int):Int:=if wi n 1 24=true then 0 else 1
def N8 (w:World) (cap x:Int) (e:Ending) (w' : World):Prop:=e=.returned (.tuple #[.agg #[.int .i64 cap,.slice none 0 0],.int .i64 x])/\Below w.heap.size w w'
theorem new8_any (n:Int) (w:World):Calls Tryz.prog 22 #[.int .i64 n] w (N8 w (nw8 n) (nw8E n)):=by
 have HC:=Lh (fun W=>iscap8_any n W)
 have HB:=Lh (Db8.fresh w 0 none 0 0 29)
 have HW:=Lh ((Below.refl w.heap.size w).alloc (nLR _) (.cells #[.int .i64 0,.slice none 0 0] 29))
 cases h:wi n 1 24 with
 | true=>
  have HE:=Lh (show nw8 n=n/\nw8E n=0 from ⟨if_pos h,if_pos h⟩)
  rw [h] at HC
  clear h
  go_enter Tryz.func22,Tryz.ntmps22
  go_wp2_with fail
  refine (HC.out _).mono ?_
  rintro e w1 ⟨rfl,rfl⟩
  obtain ⟨b0,b1,bl,f0,f1⟩:=HB.out.all
  go_wp2
  exact bodyPost_ret (v:=.tuple #[.agg #[.int .i64 n,.slice none 0 0],.int .i64 0]) (by simp only [results,Tryz.results22];go_simp <;> rfl) rfl ⟨by rw [HE.out.1,HE.out.2],(Below.refl _ _).alloc (nLR _) _⟩
 | false=>
  have HE:=Lh (show nw8 n=0/\nw8E n=1 from ⟨if_neg (by rw [h];decide),if_neg (by rw [h];decide)⟩)
  rw [h] at HC
  clear h
  go_enter Tryz.func22,Tryz.ntmps22
  go_wp2_with fail
  refine (HC.out _).mono ?_
  rintro e w1 ⟨rfl,rfl⟩
  obtain ⟨b0,b1,bl,f0,f1⟩:=HB.out.all
  go_wp2
  exact bodyPost_ret (v:=.tuple #[.agg #[.int .i64 0,.slice none 0 0],.int .i64 1]) (by simp only [results,Tryz.results22];go_simp <;> rfl) rfl ⟨by rw [HE.out.1,HE.out.2],(Below.refl _ _).alloc (nLR _) _⟩
structure VaAt8 (w:World) (p:Nat) (cap:Int) (A:Option Addr) (c:Nat) (l:List Msg) (W:World):Prop where
 db:Db8 W p cap A l.length c
 ls:Ls W w.heap.size (.slice A l.length c) l
 bel:Below w.heap.size w W
 old:w.heap.size<=p
section
variable {w W W' : World} {p c:Nat} {cap:Int} {A:Option Addr} {l:List Msg}
theorem VaAt8.below (h:VaAt8 w p cap A c l W) (hb:Below W.heap.size W W'):VaAt8 w p cap A c l W':=
 ⟨h.db.up hb,h.ls.below (hb.mono h.bel.size),h.bel.trans (hb.mono h.bel.size),h.old⟩
theorem VaAt8.alloc (h:VaAt8 w p cap A c l W) (o:Obj):VaAt8 w p cap A c l (W.alloc o):=h.below ((Below.refl _ _).alloc (nLR _) o)
theorem VaAt8.here (h:VaAt8 w p cap A c l W):Ls W W.heap.size (.slice A l.length c) l:=h.ls.more h.bel.size
theorem VaAt8.start (t:TypeId) (cap:Int) (hv:Ls w w.heap.size (.slice A l.length c) l):VaAt8 w w.heap.size cap A c l (w.alloc (.cells #[.int .i64 cap,.slice A l.length c] t)):=
 ⟨Db8.fresh w cap A l.length c t,hv.alloc (nLR _) _,(Below.refl _ _).alloc (nLR _) _,nLR _⟩
end
theorem va8_any (cap:Int) (A:Option Addr) (n c:Nat) (l:List Msg) (w:World) (hv:Ls w w.heap.size (.slice A n c) l) :
  Calls Tryz.prog 137 #[.agg #[.int .i64 cap,.slice A n c]] w (V8 w (va8 cap l)):=by
 obtain ⟨rfl,hm1,hm2⟩:=hv.len
 have hL:l.length<=9223372036854775807:=by unfold maxLen at hm2;omega
 have HC:=Lh (fun W=>iscap8_any cap W)
 have H0:=Lh (VaAt8.start 29 cap hv)
 have HF:=Lh (fun hok W (h:VaAt8 w w.heap.size cap A c l W)=>same8_any A l.length c l W h.here hok)
 clear hv hm1 hm2
 cases h0:wi cap 1 24 with
 | false=>
  rw [va8_cap h0]
  rw [h0] at HC
  clear h0
  obtain ⟨b0,b1,bl⟩:=H0.out.db.facts
  go_enter Tryz.func137,Tryz.ntmps137
  go_wp2_with fail
  refine (HC.out _).mono ?_
  rintro e w1 ⟨rfl,rfl⟩
  go_wp2
  go_ret
  exact ⟨rfl,H0.out.bel⟩
 | true=>
  rw [h0] at HC
  have hcp:=wi_of h0
  by_cases h1:cap<(l.length:Int)
  ·rw [va8_long h0 h1]
   clear h0
   obtain ⟨b0,b1,bl⟩:=H0.out.db.facts
   go_enter Tryz.func137,Tryz.ntmps137
   go_wp2_with fail
   refine (HC.out _).mono ?_
   rintro e w1 ⟨rfl,rfl⟩
   go_wp2
   go_ret
   exact ⟨rfl,H0.out.bel⟩
  ·rw [va8_so h0 h1]
   have HE:=Lh (fun k (hk:k<l.length) hn h=>so8_fe (l:=l) (by rw [fe_hit hk hn h];exact h) |>.trans (fe_hit hk hn h))
   have HD:=Lh (fun (h:∀ M∈l,vf M=0)=>so8_dup (fe_all h))
   have HK:=Lh (fun (h:∀ M∈l,vf M=0)=>so8_ok (fe_all h))
   clear h0
   obtain ⟨b0,b1,bl⟩:=H0.out.db.facts
   go_enter Tryz.func137,Tryz.ntmps137
   go_wp2_with fail
   refine (HC.out _).mono ?_
   rintro e w1 ⟨rfl,rfl⟩
   generalize so8 l=R at*
   go_wp2
   clear b0 b1 bl hcp h1
   obtain ⟨p,hp⟩:∃ p,p=w.heap.size:=⟨_,rfl⟩
   have HPP:=Lh hp
   rw [<-hp]
   have H1:=Lh (show VaAt8 w p cap A c l (w.alloc (.cells #[.int .i64 cap,.slice A l.length c] 29)) by rw [hp];exact H0.out)
   clear hp H0
   go_loopw [19] (fun i wr=>∃ k:Nat,k<=l.length/\i=.int .i64 k/\VaAt8 w p cap A c l wr/\∀ j (hj:j<l.length),j<k->vf l[j]=0) (fun i _=>l.length - (intOf i).toNat)
   case atStart=>exact ⟨0,by omega,rfl,H1.out,fun j _ h=>absurd h (by omega)⟩
   case round=>
    obtain ⟨k,hk,rfl,hr,hn⟩:=hrel
    have HR:=Lh hr
    have HN:=Lh hn
    clear hr hn H1
    by_cases hlt:k<l.length
    ·have HRA:=Lh (HR.out.alloc (.cells (l[k]).cs 79))
     have HEK:=Lh (HE.out k hlt HN.out)
     have HX:=Lh (fun W=>validate_any l[k] W)
     obtain ⟨b,o,rfl,hb,c0,c1,c2,c3,c4,c5,c6⟩:=HR.out.ls.at_ hlt
     by_cases h0:vf l[k]=0
     ·have HV0:=Lh h0
      rw [h0] at HX
      clear h0 HEK
      generalize hX0:l[k]=X at*
      have HX0:=Lh hX0
      clear hX0
      go_wp2_with fail
      refine (HX.out _).mono ?_
      rintro e w2 ⟨rfl,hb⟩
      have HR2:=Lh (HRA.out.below hb)
      clear hb
      go_wp2
      go_roundw
      case rel=>exact ⟨k+1,by omega,by go_num,HR2.out,fun j hj hjk=>by
       by_cases e:j=k
       ·subst e;rw [HX0.out];exact HV0.out
       ·exact HN.out j hj (by omega)⟩
      case measure=>simp [intOf];omega
     ·have HQ:=Lh (HEK.out h0)
      have hne:(vf l[k] != 0)=true:=by simpa using h0
      clear h0 HEK
      generalize l[k]=X at*
      generalize vf X=v at*
      go_wp2_with fail
      refine (HX.out _).mono ?_
      rintro e w2 ⟨rfl,hb⟩
      have HR2:=Lh (HRA.out.below hb)
      clear hb
      go_wp2
      go_ret
      exact ⟨by rw [HQ.out];rfl,HR2.out.bel⟩
    ·have HAL:=Lh (show ∀ M∈l,vf M=0 from fun M hM=>by
      obtain ⟨j,hj,rfl⟩:=List.getElem_of_mem hM
      exact HN.out j hj (by omega))
     have HFF:=Lh (show Calls Tryz.prog 158 #[.slice A l.length c] wr fun e w'=>e=.returned (.bool (dp8 l))/\Below wr.heap.size wr w' from HF.out HAL.out wr (by rw [<-HPP.out];exact HR.out))
     obtain ⟨b0,b1,bl⟩:=HR.out.db.facts
     cases hd:dp8 l with
     | true=>
      have HQ:=Lh (HD.out HAL.out (dp8_of hd))
      rw [hd] at HFF
      clear hd
      go_wp2_with fail
      refine HFF.out.mono ?_
      rintro e w2 ⟨rfl,hb⟩
      have HR2:=Lh (HR.out.below hb)
      clear hb
      go_wp2
      go_ret
      exact ⟨by rw [HQ.out];rfl,HR2.out.bel⟩
     | false=>
      have HQ:=Lh (HK.out HAL.out (dp8_not hd))
      rw [hd] at HFF
      clear hd
      go_wp2_with fail
      refine HFF.out.mono ?_
      rintro e w2 ⟨rfl,hb⟩
      have HR2:=Lh (HR.out.below hb)
      clear hb
      go_wp2
      go_ret
      exact ⟨by rw [HQ.out];rfl,HR2.out.bel⟩
noncomputable def nwA (s:Su):Ar:=if suB s=true then grA s s.sl.toNat s.sl.toNat s.dd else zA
def nwAE (s:Su):Int:=if suB s=true then 0 else 1
theorem info_st12:(Tryz.prog.info? 63).map (fun i=>(i.zero,i.size,i.bytes))=some (some (St.v zSt),4,32):=by kernel_rfl
theorem info_sl:(Tryz.prog.info? 74).map (fun i=>(i.zero,i.size,i.bytes))=some (some (Sl.v zSl),9,120):=by kernel_rfl
section
variable {W W' : World} {p:Nat} {a:Ar} {Y:Ax}
theorem QB.setDir (h:QB W p a Y) (d:Dd) (X:Dx):QB (((W.setCell ⟨p,5,none⟩ (.int .i64 d.vn)).setCell ⟨p,6,none⟩ (.slice X.A d.l.length X.c)).setCell ⟨p,7,none⟩ (.slice X.A2 d.F.length X.c2)) p ⟨a.sl,a.st,a.ow,a.cap,a.dl,d,a.ep,a.ck,a.ni⟩ ⟨Y.A,Y.c,Y.q,Y.A2,Y.c2,Y.A3,Y.c3,X⟩:=by
 obtain ⟨⟨k0,k1,k2,k3,k4,k5,k6,k7,k8,k9,k10⟩,fr,lt⟩:=h
 exact ⟨⟨by simp [go_sem,k0],by simp [go_sem,k1],by simp [go_sem,k2],by simp [go_sem,k3],by simp [go_sem,k4],by simp [go_sem,k5],by simp [go_sem,k6],by simp [go_sem,k7],by simp [go_sem,k8],by simp [go_sem,k9],by simp [go_sem,k10]⟩,fun o=>by simp [go_sem,fr o],by simp [lt]⟩
theorem QB.setDead (h:QB W p a Y) (cap:Int) (l:List Msg) (A:Option Addr) (c:Nat):QB ((W.setCell ⟨p,3,none⟩ (.int .i64 cap)).setCell ⟨p,4,none⟩ (.slice A l.length c)) p ⟨a.sl,a.st,a.ow,cap,l,a.dir,a.ep,a.ck,a.ni⟩ ⟨Y.A,Y.c,Y.q,Y.A2,Y.c2,A,c,Y.D⟩:=by
 obtain ⟨⟨k0,k1,k2,k3,k4,k5,k6,k7,k8,k9,k10⟩,fr,lt⟩:=h
 exact ⟨⟨by simp [go_sem,k0],by simp [go_sem,k1],by simp [go_sem,k2],by simp [go_sem,k3],by simp [go_sem,k4],by simp [go_sem,k5],by simp [go_sem,k6],by simp [go_sem,k7],by simp [go_sem,k8],by simp [go_sem,k9],by simp [go_sem,k10]⟩,fun o=>by simp [go_sem,fr o],by simp [lt]⟩
end
structure Pn12 (w:World) (p r:Nat) (s:Su) (W:World):Prop where
 sb:SuB W p s
 rb:QB W r zA zAx
 ne:w.heap.size<=p/\p<r
 bel:Below w.heap.size w W
structure Py12 (w:World) (p r y:Nat) (s:Su) (a:Ar) (Y:Ax) (W:World):Prop where
 pn:Pn12 w p r s W
 yb:QB W y a Y
 ry:r<y
section
variable {w W W' : World} {p r y:Nat} {s:Su} {a:Ar} {Y:Ax}
theorem Pn12.below (h:Pn12 w p r s W) (hb:Below W.heap.size W W'):Pn12 w p r s W':=⟨h.sb.up hb,h.rb.up hb,h.ne,h.bel.trans (hb.mono h.bel.size)⟩
theorem Pn12.start (w:World) (s:Su):Pn12 w w.heap.size (w.heap.size+1) s ((w.alloc (.cells #[.int .i64 s.sl,.int .i64 s.lv,.int .i64 s.cp,.int .i64 s.dd,.int .i64 s.lm,.int .i64 s.ck,.int .i64 s.ni,.int .i64 s.ep] 41)).alloc (.cells #[.slice none 0 0,.slice none 0 0,.int .i64 0,.int .i64 0,.slice none 0 0,.int .i64 0,.slice none 0 0,.slice none 0 0,.int .i64 0,.int .i64 0,.int .i64 0] 36)):=by
 have h1:=QB.start (w.alloc (.cells #[.int .i64 s.sl,.int .i64 s.lv,.int .i64 s.cp,.int .i64 s.dd,.int .i64 s.lm,.int .i64 s.ck,.int .i64 s.ni,.int .i64 s.ep] 41)) zA zAx 36
 rw [show (w.alloc (.cells #[.int .i64 s.sl,.int .i64 s.lv,.int .i64 s.cp,.int .i64 s.dd,.int .i64 s.lm,.int .i64 s.ck,.int .i64 s.ni,.int .i64 s.ep] 41)).heap.size=w.heap.size+1 by simp] at h1
 exact ⟨(SuB.start w s _).alloc _,h1,⟨nLR _,by omega⟩,((Below.refl _ _).alloc (nLR _) _).alloc (by simp) _⟩
theorem Pn12.other (h:Pn12 w p r s W) {x:Addr} (hx:r<x.block) (v:Value):Pn12 w p r s (W.setCell x v):=by
 have hn:=h.ne
 exact ⟨h.sb.other (x:=x) (by omega) v,h.rb.other (x:=x) (by omega) v,h.ne,h.bel.setCell (p:=x) (by omega) v⟩
theorem Py12.below (h:Py12 w p r y s a Y W) (hb:Below W.heap.size W W'):Py12 w p r y s a Y W':=⟨h.pn.below hb,h.yb.up hb,h.ry⟩
theorem Py12.dir (h:Py12 w p r y s a Y W) (d:Dd) (X:Dx):Py12 w p r y s ⟨a.sl,a.st,a.ow,a.cap,a.dl,d,a.ep,a.ck,a.ni⟩ ⟨Y.A,Y.c,Y.q,Y.A2,Y.c2,Y.A3,Y.c3,X⟩ (((W.setCell ⟨y,5,none⟩ (.int .i64 d.vn)).setCell ⟨y,6,none⟩ (.slice X.A d.l.length X.c)).setCell ⟨y,7,none⟩ (.slice X.A2 d.F.length X.c2)):=
 ⟨((h.pn.other (x:=⟨y,5,none⟩) h.ry _).other (x:=⟨y,6,none⟩) h.ry _).other (x:=⟨y,7,none⟩) h.ry _,h.yb.setDir d X,h.ry⟩
theorem Py12.dead (h:Py12 w p r y s a Y W) (cap:Int):Py12 w p r y s ⟨a.sl,a.st,a.ow,cap,[],a.dir,a.ep,a.ck,a.ni⟩ ⟨Y.A,Y.c,Y.q,Y.A2,Y.c2,none,0,Y.D⟩ ((W.setCell ⟨y,3,none⟩ (.int .i64 cap)).setCell ⟨y,4,none⟩ (.slice none 0 0)):=
 ⟨(h.pn.other (x:=⟨y,3,none⟩) h.ry _).other (x:=⟨y,4,none⟩) h.ry _,h.yb.setDead cap [] none 0,h.ry⟩
theorem Py12.grow {c:Int} {X:Dx} (h:Py12 w p r y s ⟨[],[],0,c,[],nwD s.sl s.lv,s.ep,s.ck,s.ni⟩ ⟨none,0,[],none,0,none,0,X⟩ W) (hd:DR W W.heap.size (nwD s.sl s.lv) X) (hn:X.nw (r+1)/\DOff (nwD s.sl s.lv) X y):Gw12 w p r y s c 0 0 none 0 [] none 0 X W:=
 ⟨h.pn.sb,h.pn.rb,h.yb.k,h.yb.fr,h.yb.lt,World.ownsRow_nil _ _ _ _,World.ownsRow_nil _ _ _ _,rfl,by simp,hd,hn,fun b e=>(by cases e),fun b e=>(by cases e),⟨h.pn.ne.1,h.pn.ne.2,h.ry⟩,h.pn.bel⟩
theorem ae_out {w W:World} {r y:Nat} {a:Ar} {Y:Ax} (hr:w.heap.size<=r) (hb:Below w.heap.size w W) (hn:Y.nw (y+1)) (hry:r<=y) (hs:AR W W.heap.size a Y) (x:Int):AE w a x (.returned (.tuple #[av a Y,.int .i64 x])) (set11 W r a Y):=
 ⟨Y,rfl,hn.low (by omega),(hs.set11 (hn.off (by omega)) a Y).more (by rw [set11_size];exact nLR _),set11_below hb hr a Y⟩
end
theorem sl_app_set (s:Sl) (X:List Value) (k:Nat) (v:Value):(s.l++X).set (9+k) v=s.l++X.set k v:=by
 rw [List.set_append_right _ _ (by rw [Sl.l_len];omega),Sl.l_len,Nat.add_sub_cancel_left]
theorem qcs_set (Q:List Sl) (i:Nat) (x:Int) (S:Sh) (D E:Sx) (h:Q[i]? = some ⟨x,S,D⟩):(((((((((qcs Q).set (i*9+1) (.bool S.lv)).set (i*9+2) (.int .i64 S.lo)).set (i*9+3) (.int .i64 S.hi)).set (i*9+4) (.slice E.A S.cs.length E.c)).set (i*9+5) (.int .i64 S.hd)).set (i*9+6) (.int .i64 S.sz)).set (i*9+7) (.slice E.A2 S.l.length E.c2)).set (i*9+8) (.slice E.A3 S.h.length E.c3))=qcs (Q.set i ⟨x,S,E⟩):=by
 induction Q generalizing i with
 | nil=>simp at h
 | cons s Q ih=>
  cases i with
  | zero=>
   simp only [List.getElem?_cons_zero,Option.some.injEq] at h
   subst h
   rfl
  | succ i=>
   simp only [List.getElem?_cons_succ] at h
   have e:∀ k,(i+1)*9+k=9+(i*9+k):=fun k=>by omega
   rw [qcs_cons,List.set_cons_succ,qcs_cons,<-ih i h,e 1,e 2,e 3,e 4,e 5,e 6,e 7,e 8,sl_app_set,sl_app_set,sl_app_set,sl_app_set,sl_app_set,sl_app_set,sl_app_set,sl_app_set]
abbrev sets8 (W:World) (b o:Nat) (S:Sh) (E:Sx):World:=((((((((W.setCell ⟨b,o+1,none⟩ (.bool S.lv)).setCell ⟨b,o+2,none⟩ (.int .i64 S.lo)).setCell ⟨b,o+3,none⟩ (.int .i64 S.hi)).setCell ⟨b,o+4,none⟩ (.slice E.A S.cs.length E.c)).setCell ⟨b,o+5,none⟩ (.int .i64 S.hd)).setCell ⟨b,o+6,none⟩ (.int .i64 S.sz)).setCell ⟨b,o+7,none⟩ (.slice E.A2 S.l.length E.c2)).setCell ⟨b,o+8,none⟩ (.slice E.A3 S.h.length E.c3))
section
variable {W W' : World} {b o:Nat} {S:Sh} {D E:Sx}
theorem Rb.sets8 {cs:List Value} (h:Rb W b cs) (ho:o+8<cs.length):Rb (sets8 W b o S E) b ((((((((cs.set (o+1) (.bool S.lv)).set (o+2) (.int .i64 S.lo)).set (o+3) (.int .i64 S.hi)).set (o+4) (.slice E.A S.cs.length E.c)).set (o+5) (.int .i64 S.hd)).set (o+6) (.int .i64 S.sz)).set (o+7) (.slice E.A2 S.l.length E.c2)).set (o+8) (.slice E.A3 S.h.length E.c3)):=((((((((h.set (j:=o+1) (by first | omega | (simp only [List.length_set];omega)) (.bool S.lv)).set (j:=o+2) (by first | omega | (simp only [List.length_set];omega)) (.int .i64 S.lo)).set (j:=o+3) (by first | omega | (simp only [List.length_set];omega)) (.int .i64 S.hi)).set (j:=o+4) (by first | omega | (simp only [List.length_set];omega)) (.slice E.A S.cs.length E.c)).set (j:=o+5) (by first | omega | (simp only [List.length_set];omega)) (.int .i64 S.hd)).set (j:=o+6) (by first | omega | (simp only [List.length_set];omega)) (.int .i64 S.sz)).set (j:=o+7) (by first | omega | (simp only [List.length_set];omega)) (.slice E.A2 S.l.length E.c2)).set (j:=o+8) (by first | omega | (simp only [List.length_set];omega)) (.slice E.A3 S.h.length E.c3))
theorem Rb.ql {Q:List Sl} {c n:Nat} (h:Rb W b (qcs Q)) (hn:n=Q.length) (hc:n<=c) (hm:c<=maxLen):Ql W W.heap.size (.slice (some ⟨b,0,none⟩) n c) Q:=by
 subst hn
 exact ⟨_,c,rfl,hc,hm,by rw [qcs_len],fun _=>⟨b,0,rfl,h.lt,fun j u hu=>by rw [Nat.zero_add];exact h.c j u hu⟩⟩
theorem sets8_far {x:Addr} (hx:x.block≠b):(sets8 W b o S E).cell? x=W.cell? x:=by
 have g:∀ (w:World) (k:Nat) (v:Value),(w.setCell ⟨b,k,none⟩ v).cell? x=w.cell? x:=fun w k v=>World.cell?_setCell_other w _ x v (fun e=>hx (by rw [<-e]))
 unfold sets8
 rw [g,g,g,g,g,g,g,g]
theorem sets8_frozen (x:Addr):(sets8 W b o S E).frozen? x=W.frozen? x:=by simp [go_sem]
theorem sets8_below {B:Nat} {w:World} (h:Below B w W) (hb:B<=b):Below B w (sets8 W b o S E):=
 (((((((h.setCell (p:=⟨b,o+1,none⟩) hb _).setCell (p:=⟨b,o+2,none⟩) hb _).setCell (p:=⟨b,o+3,none⟩) hb _).setCell (p:=⟨b,o+4,none⟩) hb _).setCell (p:=⟨b,o+5,none⟩) hb _).setCell (p:=⟨b,o+6,none⟩) hb _).setCell (p:=⟨b,o+7,none⟩) hb _).setCell (p:=⟨b,o+8,none⟩) hb _
theorem SR.sets8 {S' : Sh} {D' : Sx} (h:SR W W.heap.size S' D') (ho:SOff S' D' b):SR (sets8 W b o S E) (sets8 W b o S E).heap.size S' D':=
 ((((((((h.offp (p:=⟨b,o+1,none⟩) ho _).offp (p:=⟨b,o+2,none⟩) ho _).offp (p:=⟨b,o+3,none⟩) ho _).offp (p:=⟨b,o+4,none⟩) ho _).offp (p:=⟨b,o+5,none⟩) ho _).offp (p:=⟨b,o+6,none⟩) ho _).offp (p:=⟨b,o+7,none⟩) ho _).offp (p:=⟨b,o+8,none⟩) ho _).more (by simp)
theorem Tl.sets8 {A:Option Addr} {n c:Nat} {l:List St} (h:Tl W W.heap.size (.slice A n c) l) (ho:OffB b n A):Tl (sets8 W b o S E) (sets8 W b o S E).heap.size (.slice A n c) l:=
 ((((((((h.offb (p:=⟨b,o+1,none⟩) ho _).offb (p:=⟨b,o+2,none⟩) ho _).offb (p:=⟨b,o+3,none⟩) ho _).offb (p:=⟨b,o+4,none⟩) ho _).offb (p:=⟨b,o+5,none⟩) ho _).offb (p:=⟨b,o+6,none⟩) ho _).offb (p:=⟨b,o+7,none⟩) ho _).offb (p:=⟨b,o+8,none⟩) ho _).more (by simp)
theorem Ls.sets8 {A:Option Addr} {n c:Nat} {l:List Msg} (h:Ls W W.heap.size (.slice A n c) l) (ho:OffB b n A):Ls (sets8 W b o S E) (sets8 W b o S E).heap.size (.slice A n c) l:=
 ((((((((h.offp (p:=⟨b,o+1,none⟩) ho _).offp (p:=⟨b,o+2,none⟩) ho _).offp (p:=⟨b,o+3,none⟩) ho _).offp (p:=⟨b,o+4,none⟩) ho _).offp (p:=⟨b,o+5,none⟩) ho _).offp (p:=⟨b,o+6,none⟩) ho _).offp (p:=⟨b,o+7,none⟩) ho _).offp (p:=⟨b,o+8,none⟩) ho _).more (by simp)
theorem DR.sets8 {d:Dd} {X:Dx} (h:DR W W.heap.size d X) (ho:DOff d X b):DR (sets8 W b o S E) (sets8 W b o S E).heap.size d X:=
 ((((((((h.offp (q:=⟨b,o+1,none⟩) ho _).offp (q:=⟨b,o+2,none⟩) ho _).offp (q:=⟨b,o+3,none⟩) ho _).offp (q:=⟨b,o+4,none⟩) ho _).offp (q:=⟨b,o+5,none⟩) ho _).offp (q:=⟨b,o+6,none⟩) ho _).offp (q:=⟨b,o+7,none⟩) ho _).offp (q:=⟨b,o+8,none⟩) ho _).more (by simp)
end
structure Cb12 (w:World) (p r b:Nat) (a:Ar) (Y:Ax) (W:World):Prop where
 pb:QB W p a Y
 rb:QB W r zA zAx
 ro:Rb W b (qcs Y.q)
 ea:Y.A=some ⟨b,0,none⟩
 ec:a.sl.length<=Y.c/\Y.c<=maxLen
 so:Y.q.map Sl.so=a.sl
 sr:∀ t∈Y.q,SR W W.heap.size t.sh t.sx/\SOff t.sh t.sx b/\SOff t.sh t.sx p/\SOff t.sh t.sx r
 tl:Tl W W.heap.size (.slice Y.A2 a.st.length Y.c2) a.st/\OffB b a.st.length Y.A2/\OffB p a.st.length Y.A2/\OffB r a.st.length Y.A2
 ls:Ls W W.heap.size (.slice Y.A3 a.dl.length Y.c3) a.dl/\OffB b a.dl.length Y.A3/\OffB p a.dl.length Y.A3/\OffB r a.dl.length Y.A3
 dr:DR W W.heap.size a.dir Y.D/\DOff a.dir Y.D b/\DOff a.dir Y.D p/\DOff a.dir Y.D r
 ne:w.heap.size<=p/\p<r/\r<b
 bel:Below w.heap.size w W
section
variable {w W W' : World} {p r b:Nat} {a:Ar} {Y:Ax}
theorem Cb12.len (h:Cb12 w p r b a Y W):Y.q.length=a.sl.length:=by rw [<-h.so];simp
theorem Cb12.ar (h:Cb12 w p r b a Y W):AR W W.heap.size a Y:=
 ⟨by rw [h.ea];exact h.ro.ql h.len.symm h.ec.1 h.ec.2,h.so,fun t ht=>(h.sr t ht).1,h.tl.1,h.ls.1,h.dr.1⟩
theorem Cb12.below (h:Cb12 w p r b a Y W) (hb:Below W.heap.size W W'):Cb12 w p r b a Y W':=
 ⟨h.pb.up hb,h.rb.up hb,h.ro.up hb,h.ea,h.ec,h.so,fun t ht=>⟨(h.sr t ht).1.up hb,(h.sr t ht).2⟩,⟨h.tl.1.up hb,h.tl.2⟩,⟨h.ls.1.up hb,h.ls.2⟩,⟨h.dr.1.up hb,h.dr.2⟩,h.ne,h.bel.trans (hb.mono h.bel.size)⟩
theorem Cb12.slot (h:Cb12 w p r b a Y W) {i:Nat} {x:Int} {S:Sh} {D E:Sx} (hi:Y.q[i]? = some ⟨x,S,D⟩) (hr:SR W W.heap.size S E) (hn:E.nw (b+1)):Cb12 w p r b a ⟨Y.A,Y.c,Y.q.set i ⟨x,S,E⟩,Y.A2,Y.c2,Y.A3,Y.c3,Y.D⟩ (sets8 W b (i*9) S E):=by
 have hne:=h.ne
 have hl:=(List.getElem?_eq_some_iff.1 hi).1
 have ht:∀ t∈Y.q.set i ⟨x,S,E⟩,t∈Y.q\/t=⟨x,S,E⟩:=fun t ht=>by
  rcases List.mem_or_eq_of_mem_set ht with h1 | h1
  ·exact .inl h1
  ·exact .inr h1
 have h2:=h.ro.sets8 (o:=i*9) (S:=S) (E:=E) (by rw [qcs_len];omega)
 rw [qcs_set Y.q i x S D E hi] at h2
 have hq:QB (sets8 W b (i*9) S E) p a Y:=h.pb.keep (fun o=>sets8_far (show p≠b by omega)) (fun o=>sets8_frozen _) (show W.heap.size<=(sets8 W b (i*9) S E).heap.size by simp)
 refine ⟨⟨hq.k,hq.fr,hq.lt⟩,h.rb.keep (fun o=>sets8_far (show r≠b by omega)) (fun o=>sets8_frozen _) (show W.heap.size<=(sets8 W b (i*9) S E).heap.size by simp),h2,h.ea,h.ec,?_,fun t hm=>?_,⟨h.tl.1.sets8 h.tl.2.1,h.tl.2⟩,⟨h.ls.1.sets8 h.ls.2.1,h.ls.2⟩,⟨h.dr.1.sets8 h.dr.2.1,h.dr.2⟩,h.ne,sets8_below h.bel (by omega)⟩
 ·show (Y.q.set i ⟨x,S,E⟩).map Sl.so=a.sl
  rw [List.map_set,<-h.so]
  have e:(Y.q.map Sl.so)[i]? = some (Sl.so ⟨x,S,D⟩):=by rw [List.getElem?_map,hi];rfl
  obtain ⟨e1,e2⟩:=List.getElem?_eq_some_iff.1 e
  rw [show Sl.so ⟨x,S,E⟩=(Y.q.map Sl.so)[i] from e2.symm]
  exact List.set_getElem_self e1
 ·rcases ht t hm with h1 | rfl
  ·exact ⟨(h.sr t h1).1.sets8 (h.sr t h1).2.1,(h.sr t h1).2⟩
  ·exact ⟨hr.sets8 (hn.off (Nat.lt_succ_self b)),hn.off (Nat.lt_succ_self b),hn.off (by omega),hn.off (by omega)⟩
theorem Cb12.keep (h:Cb12 w p r b a Y W) (j:Nat) (v:Value):(∀ t∈Y.q,SR (W.setCell ⟨p,j,none⟩ v) (W.setCell ⟨p,j,none⟩ v).heap.size t.sh t.sx)/\Tl (W.setCell ⟨p,j,none⟩ v) (W.setCell ⟨p,j,none⟩ v).heap.size (.slice Y.A2 a.st.length Y.c2) a.st/\Ls (W.setCell ⟨p,j,none⟩ v) (W.setCell ⟨p,j,none⟩ v).heap.size (.slice Y.A3 a.dl.length Y.c3) a.dl/\DR (W.setCell ⟨p,j,none⟩ v) (W.setCell ⟨p,j,none⟩ v).heap.size a.dir Y.D/\QB (W.setCell ⟨p,j,none⟩ v) r zA zAx/\Rb (W.setCell ⟨p,j,none⟩ v) b (qcs Y.q)/\Below w.heap.size w (W.setCell ⟨p,j,none⟩ v):=by
 have hne:=h.ne
 exact ⟨fun t ht=>((h.sr t ht).1.offp (p:=⟨p,j,none⟩) (h.sr t ht).2.2.1 v).more (by simp),(h.tl.1.offb (p:=⟨p,j,none⟩) h.tl.2.2.1 v).more (by simp),(h.ls.1.offp (p:=⟨p,j,none⟩) h.ls.2.2.1 v).more (by simp),(h.dr.1.offp (q:=⟨p,j,none⟩) h.dr.2.2.1 v).more (by simp),h.rb.other (x:=⟨p,j,none⟩) (show p≠r by omega) v,h.ro.other (a:=⟨p,j,none⟩) (show p≠b by omega) v,h.bel.setCell (p:=⟨p,j,none⟩) hne.1 v⟩
theorem QB.setStr (h:QB W p a Y) (A:Option Addr) (c:Nat):QB (W.setCell ⟨p,1,none⟩ (.slice A a.st.length c)) p a ⟨Y.A,Y.c,Y.q,A,c,Y.A3,Y.c3,Y.D⟩:=by
 obtain ⟨⟨k0,k1,k2,k3,k4,k5,k6,k7,k8,k9,k10⟩,fr,lt⟩:=h
 exact ⟨⟨by simp [go_sem,k0],by simp [go_sem,k1],by simp [go_sem,k2],by simp [go_sem,k3],by simp [go_sem,k4],by simp [go_sem,k5],by simp [go_sem,k6],by simp [go_sem,k7],by simp [go_sem,k8],by simp [go_sem,k9],by simp [go_sem,k10]⟩,fun o=>by simp [go_sem,fr o],by simp [lt]⟩
theorem QB.setSlo (h:QB W p a Y) (A:Option Addr) (c:Nat) (Q:List Sl):QB (W.setCell ⟨p,0,none⟩ (.slice A a.sl.length c)) p a ⟨A,c,Q,Y.A2,Y.c2,Y.A3,Y.c3,Y.D⟩:=by
 obtain ⟨⟨k0,k1,k2,k3,k4,k5,k6,k7,k8,k9,k10⟩,fr,lt⟩:=h
 exact ⟨⟨by simp [go_sem,k0],by simp [go_sem,k1],by simp [go_sem,k2],by simp [go_sem,k3],by simp [go_sem,k4],by simp [go_sem,k5],by simp [go_sem,k6],by simp [go_sem,k7],by simp [go_sem,k8],by simp [go_sem,k9],by simp [go_sem,k10]⟩,fun o=>by simp [go_sem,fr o],by simp [lt]⟩
theorem Cb12.str (h:Cb12 w p r b a Y W) {A:Option Addr} {c:Nat} (hl:Tl W W.heap.size (.slice A a.st.length c) a.st) (hn:Nw (b+1) A):Cb12 w p r b a ⟨Y.A,Y.c,Y.q,A,c,Y.A3,Y.c3,Y.D⟩ (W.setCell ⟨p,1,none⟩ (.slice A a.st.length c)):=by
 have hne:=h.ne
 obtain ⟨k1,k2,k3,k4,k5,k6,k7⟩:=h.keep 1 (.slice A a.st.length c)
 exact ⟨h.pb.setStr A c,k5,k6,h.ea,h.ec,h.so,fun t ht=>⟨k1 t ht,(h.sr t ht).2⟩,⟨(hl.offb (p:=⟨p,1,none⟩) (offb_nw hn (by show p<b+1;omega)) _).more (by simp),offb_nw hn (Nat.lt_succ_self b),offb_nw hn (by omega),offb_nw hn (by omega)⟩,⟨k3,h.ls.2⟩,⟨k4,h.dr.2⟩,h.ne,k7⟩
theorem Cb12.ded (h:Cb12 w p r b a Y W) {A:Option Addr} {c:Nat} (hl:Ls W W.heap.size (.slice A a.dl.length c) a.dl) (hn:Nw (b+1) A):Cb12 w p r b a ⟨Y.A,Y.c,Y.q,Y.A2,Y.c2,A,c,Y.D⟩ ((W.setCell ⟨p,3,none⟩ (.int .i64 a.cap)).setCell ⟨p,4,none⟩ (.slice A a.dl.length c)):=by
 have hne:=h.ne
 have hpb:QB ((W.setCell ⟨p,3,none⟩ (.int .i64 a.cap)).setCell ⟨p,4,none⟩ (.slice A a.dl.length c)) p a ⟨Y.A,Y.c,Y.q,Y.A2,Y.c2,A,c,Y.D⟩:=h.pb.setDead a.cap a.dl A c
 obtain ⟨k1,k2,k3,k4,k5,k6,k7⟩:=h.keep 3 (.int .i64 a.cap)
 have hl2:=(hl.offp (p:=⟨p,3,none⟩) (offb_nw hn (by show p<b+1;omega)) (.int .i64 a.cap)).more (B':=(W.setCell ⟨p,3,none⟩ (.int .i64 a.cap)).heap.size) (by simp)
 exact ⟨hpb,k5.other (x:=⟨p,4,none⟩) (show p≠r by omega) _,k6.other (a:=⟨p,4,none⟩) (show p≠b by omega) _,h.ea,h.ec,h.so,fun t ht=>⟨((k1 t ht).offp (p:=⟨p,4,none⟩) (h.sr t ht).2.2.1 _).more (by simp),(h.sr t ht).2⟩,⟨(k2.offb (p:=⟨p,4,none⟩) h.tl.2.2.1 _).more (by simp),h.tl.2⟩,⟨(hl2.offp (p:=⟨p,4,none⟩) (offb_nw hn (by show p<b+1;omega)) _).more (by simp),offb_nw hn (Nat.lt_succ_self b),offb_nw hn (by omega),offb_nw hn (by omega)⟩,⟨(k4.offp (q:=⟨p,4,none⟩) h.dr.2.2.1 _).more (by simp),h.dr.2⟩,h.ne,k7.setCell (p:=⟨p,4,none⟩) hne.1 _⟩
theorem Cb12.dir (h:Cb12 w p r b a Y W) {X:Dx} (hd:DR W W.heap.size a.dir X) (hn:X.nw (b+1)):Cb12 w p r b a ⟨Y.A,Y.c,Y.q,Y.A2,Y.c2,Y.A3,Y.c3,X⟩ (((W.setCell ⟨p,5,none⟩ (.int .i64 a.dir.vn)).setCell ⟨p,6,none⟩ (.slice X.A a.dir.l.length X.c)).setCell ⟨p,7,none⟩ (.slice X.A2 a.dir.F.length X.c2)):=by
 have hne:=h.ne
 have hpb:=h.pb.setDir a.dir X
 have ho:DOff a.dir X p:=hn.off (by omega)
 obtain ⟨k1,k2,k3,k4,k5,k6,k7⟩:=h.keep 5 (.int .i64 a.dir.vn)
 exact ⟨hpb,(k5.other (x:=⟨p,6,none⟩) (show p≠r by omega) _).other (x:=⟨p,7,none⟩) (show p≠r by omega) _,(k6.other (a:=⟨p,6,none⟩) (show p≠b by omega) _).other (a:=⟨p,7,none⟩) (show p≠b by omega) _,h.ea,h.ec,h.so,fun t ht=>⟨(((k1 t ht).offp (p:=⟨p,6,none⟩) (h.sr t ht).2.2.1 _).offp (p:=⟨p,7,none⟩) (h.sr t ht).2.2.1 _).more (by simp),(h.sr t ht).2⟩,⟨((k2.offb (p:=⟨p,6,none⟩) h.tl.2.2.1 _).offb (p:=⟨p,7,none⟩) h.tl.2.2.1 _).more (by simp),h.tl.2⟩,⟨((k3.offp (p:=⟨p,6,none⟩) h.ls.2.2.1 _).offp (p:=⟨p,7,none⟩) h.ls.2.2.1 _).more (by simp),h.ls.2⟩,
  ⟨(((hd.offp (q:=⟨p,5,none⟩) ho _).offp (q:=⟨p,6,none⟩) ho _).offp (q:=⟨p,7,none⟩) ho _).more (by simp),hn.off (Nat.lt_succ_self b),ho,hn.off (by omega)⟩,h.ne,(k7.setCell (p:=⟨p,6,none⟩) hne.1 _).setCell (p:=⟨p,7,none⟩) hne.1 _⟩
end
def AvP (w:World) (a:Ar) (e:Ending) (w' : World):Prop:=∃ (Y:Ax) (b:Nat),e=.returned (av a Y)/\Y.nw w.heap.size/\AR w' w'.heap.size a Y/\Below w.heap.size w w'/\Y.A=some ⟨b,0,none⟩/\(a.sl.length<=Y.c/\Y.c<=maxLen)/\Rb w' b (qcs Y.q)/\(∀ t∈Y.q,SOff t.sh t.sx b)/\OffB b a.st.length Y.A2/\OffB b a.dl.length Y.A3/\DOff a.dir Y.D b
theorem Rb.set11 {W:World} {b r:Nat} {cs:List Value} (h:Rb W b cs) (hr:r≠b) (a:Ar) (Y:Ax):Rb (set11 W r a Y) b cs:=
 ((((((((((h.other (a:=⟨r,0,none⟩) hr _).other (a:=⟨r,1,none⟩) hr _).other (a:=⟨r,2,none⟩) hr _).other (a:=⟨r,3,none⟩) hr _).other (a:=⟨r,4,none⟩) hr _).other (a:=⟨r,5,none⟩) hr _).other (a:=⟨r,6,none⟩) hr _).other (a:=⟨r,7,none⟩) hr _).other (a:=⟨r,8,none⟩) hr _).other (a:=⟨r,9,none⟩) hr _).other (a:=⟨r,10,none⟩) hr _
theorem mgclp_lsv {w w' : World} {l:List Msg} {e:Ending} (h:MGClP w l e w'):LsV w l e w':=by
 obtain ⟨v,rfl,ho,hb⟩:=h
 obtain ⟨A,c,rfl⟩:=own_form ho
 exact ⟨A,c,rfl,nwv_of (nwv_own ho (nLR _)),Ls.of_own ho,hb⟩
structure Cs12 (w:World) (p r:Nat) (S:Sh) (D:Sx) (W:World):Prop where
 sa:SAt w p S D W
 rb:SB8 W r zS zX
 ne:p<r/\w.heap.size<=r
section
variable {w W W' : World} {p r:Nat} {S:Sh} {D:Sx}
theorem Cs12.below (h:Cs12 w p r S D W) (hb:Below W.heap.size W W'):Cs12 w p r S D W':=⟨h.sa.below hb,h.rb.up hb,h.ne⟩
theorem Cs12.start (hs:SR w w.heap.size S D):Cs12 w w.heap.size (w.heap.size+1) S D ((w.alloc (.cells #[.bool S.lv,.int .i64 S.lo,.int .i64 S.hi,.slice D.A S.cs.length D.c,.int .i64 S.hd,.int .i64 S.sz,.slice D.A2 S.l.length D.c2,.slice D.A3 S.h.length D.c3] 72)).alloc (.cells #[.bool false,.int .i64 0,.int .i64 0,.slice none 0 0,.int .i64 0,.int .i64 0,.slice none 0 0,.slice none 0 0] 72)):=by
 have h1:=SB8.zero (w.alloc (.cells #[.bool S.lv,.int .i64 S.lo,.int .i64 S.hi,.slice D.A S.cs.length D.c,.int .i64 S.hd,.int .i64 S.sz,.slice D.A2 S.l.length D.c2,.slice D.A3 S.h.length D.c3] 72)) 72
 rw [show (w.alloc (.cells #[.bool S.lv,.int .i64 S.lo,.int .i64 S.hi,.slice D.A S.cs.length D.c,.int .i64 S.hd,.int .i64 S.sz,.slice D.A2 S.l.length D.c2,.slice D.A3 S.h.length D.c3] 72)).heap.size=w.heap.size+1 by simp] at h1
 exact ⟨(SAt.start _ hs).below ((Below.refl _ _).alloc (nLR _) _),h1,by omega,by omega⟩
end
theorem cshard_any (S:Sh) (D:Sx) (w:World) (hs:SR w w.heap.size S D) (n2:S.cs.length<=1000) (n3:S.l.length<=1000) (n4:S.h.length<=1000) :
  Calls Tryz.prog 57 #[sv S D] w (SV w S):=by
 have H0:=Lh (Cs12.start hs)
 have HA:=Lh (fun D W (k:Cs12 w w.heap.size (w.heap.size+1) S D W)=>(mgclone_any D.A S.cs.length D.c S.cs W k.sa.sr.ls n2).mono fun _ _ h=>mgclp_lsv h)
 have HL:=Lh (fun D W (k:Cs12 w w.heap.size (w.heap.size+1) S D W)=>(eclone_any D.A2 S.l.length D.c2 S.l W k.sa.sr.el n3).mono fun _ _ h=>eclp_elv h)
 have HH:=Lh (fun D W (k:Cs12 w w.heap.size (w.heap.size+1) S D W)=>(dclone_any D.A3 S.h.length D.c3 S.h W k.sa.sr.dl n4).mono fun _ _ h=>dclp_dlv h)
 obtain ⟨p,hp⟩:∃ p,p=w.heap.size:=⟨_,rfl⟩
 obtain ⟨r,hr⟩:∃ r,r=w.heap.size+1:=⟨_,rfl⟩
 have HPP:=Lh (And.intro hp hr)
 rw [<-hr] at H0 HA HL HH
 have H0:=Lh (show Cs12 w p r S D _ from by rw [hp];exact H0.out)
 have HA:=Lh (show ∀ (D:Sx) (W:World) (k:Cs12 w p r S D W),Calls Tryz.prog 49 #[.slice D.A S.cs.length D.c] W (LsV W S.cs) from by rw [hp];exact HA.out)
 have HL:=Lh (show ∀ (D:Sx) (W:World) (k:Cs12 w p r S D W),Calls Tryz.prog 79 #[.slice D.A2 S.l.length D.c2] W (ElV W S.l) from by rw [hp];exact HL.out)
 have HH:=Lh (show ∀ (D:Sx) (W:World) (k:Cs12 w p r S D W),Calls Tryz.prog 80 #[.slice D.A3 S.h.length D.c3] W (DlV W S.h) from by rw [hp];exact HH.out)
 clear hs n2 n3 n4 hp hr
 go_enter Tryz.func57,Tryz.ntmps57
 go_upto_region 1 with (fail)
 rw [<-HPP.out.2,<-HPP.out.1]
 generalize (w.alloc (.cells #[.bool S.lv,.int .i64 S.lo,.int .i64 S.hi,.slice D.A S.cs.length D.c,.int .i64 S.hd,.int .i64 S.sz,.slice D.A2 S.l.length D.c2,.slice D.A3 S.h.length D.c3] 72)).alloc (.cells #[.bool false,.int .i64 0,.int .i64 0,.slice none 0 0,.int .i64 0,.int .i64 0,.slice none 0 0,.slice none 0 0] 72)=w1 at*
 obtain ⟨t0,t1,t2,t3,t4,t5,t6,t7,tl⟩:=H0.out.sa.s8.facts
 go_wp2_with fail
 clear t0 t1 t2 t3 t4 t5 t6 t7 tl
 refine (HA.out _ _ H0.out).mono ?_
 rintro e w2 ⟨A1,c1,rfl,n1,l1,b1⟩
 have H1:=Lh (H0.out.below b1)
 have H2:=Lh (show Cs12 w p r S ⟨A1,c1,D.A2,D.c2,D.A3,D.c3⟩ (w2.setCell ⟨p,3,none⟩ (.slice A1 S.cs.length c1)) from ⟨H1.out.sa.setA l1 (offb_nw n1 H0.out.sa.s8.lt),H1.out.rb.other (q:=⟨p,3,none⟩) (Nat.ne_of_lt H1.out.ne.1) _,H1.out.ne⟩)
 have N1:=Lh (nw_low n1 (show r+1<=_ from H0.out.rb.lt))
 obtain ⟨t0,t1,t2,t3,t4,t5,t6,t7,tl⟩:=H1.out.sa.s8.facts
 obtain ⟨f0,f1,f2,f3,f4,f5,f6,f7⟩:=H1.out.sa.s8.free
 clear n1 l1 b1 H0
 go_upto_region 2 with (fail)
 clear t0 t1 t2 t3 t4 t5 t6 t7 tl f0 f1 f2 f3 f4 f5 f6 f7 H1
 generalize w2.setCell ⟨p,3,none⟩ (.slice A1 S.cs.length c1)=w3 at*
 have HM:=Lh (H2.out.below (Below.refl _ _).drew)
 obtain ⟨t0,t1,t2,t3,t4,t5,t6,t7,tl⟩:=H2.out.sa.s8.facts
 go_wp2_with fail
 go_region_law (first
  | (go_simp;go_at_call 79;(with_reducible refine (HL.out _ _ HM.out).mono ?_);rintro e w4 ⟨A2,c2,rfl,n1,l1,b1⟩;have HEL:=Lh (And.intro (nw_low n1 (show r+1<=_ from HM.out.rb.lt)) l1);have HBL:=Lh (Below.refl w4.heap.size w4);(try (have HBH:=Lh (HBH.out.trans (b1.mono HBH.out.size))));have HM:=Lh (HM.out.below b1);obtain ⟨t0,t1,t2,t3,t4,t5,t6,t7,tl⟩:=HM.out.sa.s8.facts;obtain ⟨f0,f1,f2,f3,f4,f5,f6,f7⟩:=HM.out.sa.s8.free;clear n1 l1 b1)
  | (go_simp;go_at_call 80;(with_reducible refine (HH.out _ _ HM.out).mono ?_);rintro e w5 ⟨A3,c3,rfl,n1,l1,b1⟩;have HEH:=Lh (And.intro (nw_low n1 (show r+1<=_ from HM.out.rb.lt)) l1);have HBH:=Lh (Below.refl w5.heap.size w5);(try (have HBL:=Lh (HBL.out.trans (b1.mono HBL.out.size))));have HM:=Lh (HM.out.below b1);obtain ⟨t0,t1,t2,t3,t4,t5,t6,t7,tl⟩:=HM.out.sa.s8.facts;obtain ⟨f0,f1,f2,f3,f4,f5,f6,f7⟩:=HM.out.sa.s8.free;clear n1 l1 b1))
 all_goals
  have HN:=Lh (show Sx.nw ⟨A1,c1,A2,c2,A3,c3⟩ (r+1) from ⟨N1.out,HEL.out.1,HEH.out.1⟩)
  have hpr:=HM.out.ne.1
  have hpr1:p<r+1:=by omega
  have HS6:=Lh (HM.out.sa.setL (HEL.out.2.up HBL.out) (offb_nw HEL.out.1 hpr1))
  have HS7:=Lh (HS6.out.setH (((HEH.out.2.up HBH.out).offp (p:=⟨p,6,none⟩) (offb_nw HEH.out.1 hpr1) (.slice A2 S.l.length c2)).more (by simp)) (offb_nw HEH.out.1 hpr1))
  have HR7:=Lh ((HM.out.rb.other (q:=⟨p,6,none⟩) (Nat.ne_of_lt hpr) (.slice A2 S.l.length c2)).other (q:=⟨p,7,none⟩) (Nat.ne_of_lt hpr) (.slice A3 S.h.length c3))
  have HF:=Lh (sv_out HM.out.ne.2 HS7.out.bel HN.out HS7.out.sr)
  obtain ⟨r0,r1,r2,r3,r4,r5,r6,r7,rl⟩:=HM.out.rb.facts
  obtain ⟨g0,g1,g2,g3,g4,g5,g6,g7⟩:=HM.out.rb.free
  have hp1:¬p=r:=by omega
  have hp2:¬r=p:=by omega
  clear HS6 HS7 HR7 HEL HEH HBL HBH HM HN N1 HL HH HA H2 hpr hpr1
  go_wp2
  exact bodyPost_ret (v:=sv S ⟨A1,c1,A2,c2,A3,c3⟩) (by simp only [results,Tryz.results57];go_simp <;> rfl) rfl HF.out
def DdV (w:World) (cap:Int) (l:List Msg) (e:Ending) (w' : World):Prop:=∃ A c,e=.returned (.agg #[.int .i64 cap,.slice A l.length c])/\Nw w.heap.size A/\Ls w' w'.heap.size (.slice A l.length c) l/\Below w.heap.size w w'
theorem cdead_any (cap:Int) (A:Option Addr) (c:Nat) (l:List Msg) (w:World) (hl:Ls w w.heap.size (.slice A l.length c) l) (n1:l.length<=1000) :
  Calls Tryz.prog 48 #[.agg #[.int .i64 cap,.slice A l.length c]] w (DdV w cap l):=by
 have b1:=(Below.refl w.heap.size w).alloc (nLR _) (.cells #[.int .i64 cap,.slice A l.length c] 29)
 have b2:=b1.alloc (by simp) (.cells #[.int .i64 0,.slice none 0 0] 29)
 have HB:=Lh b2
 have HL:=Lh (hl.up b2)
 have HP:=Lh ((Db8.fresh w cap A l.length c 29).alloc (.cells #[.int .i64 0,.slice none 0 0] 29))
 have h1:=Db8.fresh (w.alloc (.cells #[.int .i64 cap,.slice A l.length c] 29)) 0 none 0 0 29
 rw [show (w.alloc (.cells #[.int .i64 cap,.slice A l.length c] 29)).heap.size=w.heap.size+1 by simp] at h1
 have HR:=Lh h1
 have HC:=Lh (fun W (k:Ls W W.heap.size (.slice A l.length c) l)=>(mgclone_any A l.length c l W k n1).mono fun _ _ h=>mgclp_lsv h)
 obtain ⟨p,hp⟩:∃ p,p=w.heap.size:=⟨_,rfl⟩
 obtain ⟨r,hr⟩:∃ r,r=w.heap.size+1:=⟨_,rfl⟩
 have HPP:=Lh (And.intro hp hr)
 clear hp hr h1 b1 b2 hl n1
 go_enter Tryz.func48,Tryz.ntmps48
 go_upto_region 1 with (fail)
 rw [<-HPP.out.2] at HR
 have HP:=Lh (show Db8 _ p cap A l.length c from by rw [HPP.out.1];exact HP.out)
 rw [<-HPP.out.2,<-HPP.out.1]
 generalize (w.alloc (.cells #[.int .i64 cap,.slice A l.length c] 29)).alloc (.cells #[.int .i64 0,.slice none 0 0] 29)=w1 at*
 obtain ⟨c0,c1,cl⟩:=HP.out.facts
 go_wp2_with fail
 clear c0 c1 cl
 refine (HC.out _ HL.out).mono ?_
 rintro e w2 ⟨A2,c2,rfl,hn,hl,hb⟩
 have HN:=Lh (nw_low hn (show r+1<=_ from HR.out.lt))
 have hpw:w.heap.size<=p:=by have:=HPP.out;omega
 have hrw:w.heap.size<=r:=by have:=HPP.out;omega
 have hp1:¬p=r:=by have:=HPP.out;omega
 have hp2:¬r=p:=fun e=>hp1 e.symm
 have HF:=Lh (show DdV w cap l (.returned (.agg #[.int .i64 cap,.slice A2 l.length c2])) (((w2.setCell ⟨p,1,none⟩ (.slice A2 l.length c2)).setCell ⟨r,0,none⟩ (.int .i64 cap)).setCell ⟨r,1,none⟩ (.slice A2 l.length c2)) from
  ⟨A2,c2,rfl,nw_low HN.out (by omega),(((hl.offp (p:=⟨p,1,none⟩) (offb_nw HN.out (by have:=HPP.out;show p<r+1;omega)) _).offp (p:=⟨r,0,none⟩) (offb_nw HN.out (Nat.lt_succ_self r)) _).offp (p:=⟨r,1,none⟩) (offb_nw HN.out (Nat.lt_succ_self r)) _).more (by simp),
   (((HB.out.trans (hb.mono HB.out.size)).setCell (p:=⟨p,1,none⟩) hpw _).setCell (p:=⟨r,0,none⟩) hrw _).setCell (p:=⟨r,1,none⟩) hrw _⟩)
 obtain ⟨c0,c1,cl,f0,f1⟩:=(HP.out.up hb).all
 obtain ⟨r0,r1,rl,g0,g1⟩:=(HR.out.up hb).all
 clear hn hl hb HN HB HL HC hpw hrw
 go_wp2
 exact bodyPost_ret (v:=.agg #[.int .i64 cap,.slice A2 l.length c2]) (by simp only [results,Tryz.results48];go_simp <;> rfl) rfl HF.out
def DVn (w:World) (d:Dd) (e:Ending) (w' : World):Prop:=∃ X,e=.returned (dv d X)/\X.nw w.heap.size/\DR w' w'.heap.size d X/\Below w.heap.size w w'
def PlV (w:World) (l:List Sp) (e:Ending) (w' : World):Prop:=∃ A c,e=.returned (.slice A l.length c)/\Nw w.heap.size A/\Pl w' w'.heap.size (.slice A l.length c) l/\Below w.heap.size w w'
def FlV (w:World) (l:List Int) (e:Ending) (w' : World):Prop:=∃ A c,e=.returned (.slice A l.length c)/\Nw w.heap.size A/\Fl w' w'.heap.size (.slice A l.length c) l/\Below w.heap.size w w'
theorem spclp_plv {w w' : World} {l:List Sp} {e:Ending} (h:SPClP w l e w'):PlV w l e w':=by
 obtain ⟨v,rfl,ho,hb⟩:=h
 obtain ⟨A,c,rfl⟩:=own_form ho
 exact ⟨A,c,rfl,nwv_of (nwv_own ho (nLR _)),Pl.of_own ho,hb⟩
theorem niclp_flv {w w' : World} {l:List Int} {e:Ending} (h:NIClP w l e w'):FlV w l e w':=by
 obtain ⟨v,rfl,ho,hb⟩:=h
 obtain ⟨A,c,rfl⟩:=own_form ho
 exact ⟨A,c,rfl,nwv_of (nwv_own ho (nLR _)),Fl.of_own ho,hb⟩
structure Cd12 (w:World) (p r:Nat) (d:Dd) (X:Dx) (W:World):Prop where
 da:DAt w p d X W
 rb:Db10 W r zD10 zDx
 ne:p<r
section
variable {w W W' : World} {p r:Nat} {d:Dd} {X:Dx}
theorem Cd12.below (h:Cd12 w p r d X W) (hb:Below W.heap.size W W'):Cd12 w p r d X W':=⟨h.da.below hb,h.rb.up hb,h.ne⟩
theorem Cd12.start (hd:DR w w.heap.size d X):Cd12 w w.heap.size (w.heap.size+1) d X ((w.alloc (.cells #[.int .i64 d.vn,.slice X.A d.l.length X.c,.slice X.A2 d.F.length X.c2] 34)).alloc (.cells #[.int .i64 0,.slice none 0 0,.slice none 0 0] 34)):=by
 have h1:=Db10.zero (w.alloc (.cells #[.int .i64 d.vn,.slice X.A d.l.length X.c,.slice X.A2 d.F.length X.c2] 34)) 34
 rw [show (w.alloc (.cells #[.int .i64 d.vn,.slice X.A d.l.length X.c,.slice X.A2 d.F.length X.c2] 34)).heap.size=w.heap.size+1 by simp] at h1
 exact ⟨(DAt.start _ hd).below ((Below.refl _ _).alloc (nLR _) _),h1,by omega⟩
theorem dvn_out {w W:World} {r:Nat} {d:Dd} {X:Dx} (hr:w.heap.size<=r) (hb:Below w.heap.size w W) (hn:X.nw (r+1)) (hs:DR W W.heap.size d X):DVn w d (.returned (dv d X)) (((W.setCell ⟨r,0,none⟩ (.int .i64 d.vn)).setCell ⟨r,1,none⟩ (.slice X.A d.l.length X.c)).setCell ⟨r,2,none⟩ (.slice X.A2 d.F.length X.c2)):=
 ⟨X,rfl,hn.low (by omega),(((hs.offp (q:=⟨r,0,none⟩) (hn.off (Nat.lt_succ_self r)) _).offp (q:=⟨r,1,none⟩) (hn.off (Nat.lt_succ_self r)) _).offp (q:=⟨r,2,none⟩) (hn.off (Nat.lt_succ_self r)) _).more (by simp),((hb.setCell (p:=⟨r,0,none⟩) hr _).setCell (p:=⟨r,1,none⟩) hr _).setCell (p:=⟨r,2,none⟩) hr _⟩
end
theorem DR.two {W:World} {d:Dd} {X:Dx} {p:Nat} (h:DR W W.heap.size d X) (ho:DOff d X p) (u v:Value):DR ((W.setCell ⟨p,1,none⟩ u).setCell ⟨p,2,none⟩ v) ((W.setCell ⟨p,1,none⟩ u).setCell ⟨p,2,none⟩ v).heap.size d X:=
 ((h.offp (q:=⟨p,1,none⟩) ho u).offp (q:=⟨p,2,none⟩) ho v).more (by simp)
theorem cdir_any (d:Dd) (X:Dx) (w:World) (hd:DR w w.heap.size d X) (n1:d.l.length<=1000) (n2:d.F.length<=1000) :
  Calls Tryz.prog 53 #[dv d X] w (DVn w d):=by
 obtain ⟨p,hp⟩:∃ p,p=w.heap.size:=⟨_,rfl⟩
 obtain ⟨r,hr⟩:∃ r,r=w.heap.size+1:=⟨_,rfl⟩
 have H0:=Lh (show Cd12 w p r d X _ from by rw [hr,hp];exact Cd12.start hd)
 have HP:=Lh (fun W (k:Cd12 w p r d X W)=>(spclone_any X.A d.l.length X.c d.l W k.da.dr.pl n1).mono fun _ _ h=>spclp_plv h)
 have HF:=Lh (fun W (k:Cd12 w p r d X W)=>(niclone_any X.A2 d.F.length X.c2 d.F W k.da.dr.fl n2).mono fun _ _ h=>niclp_flv h)
 have HPP:=Lh (And.intro hp hr)
 clear hp hr hd n1 n2
 go_enter Tryz.func53,Tryz.ntmps53
 go_upto_region 1 with (fail)
 rw [<-HPP.out.2,<-HPP.out.1]
 generalize (w.alloc (.cells #[.int .i64 d.vn,.slice X.A d.l.length X.c,.slice X.A2 d.F.length X.c2] 34)).alloc (.cells #[.int .i64 0,.slice none 0 0,.slice none 0 0] 34)=w1 at*
 have HM:=Lh (H0.out.below (Below.refl _ _).drew)
 obtain ⟨⟨t0,t1,t2,tl⟩,-⟩:=H0.out.da.db.all
 go_wp2_with fail
 go_region_law (first
  | (go_simp;go_at_call 77;(with_reducible refine (HP.out _ HM.out).mono ?_);rintro e w4 ⟨A1,c1,rfl,n1,l1,b1⟩;have HEL:=Lh (And.intro (nw_low n1 (show r+1<=_ from HM.out.rb.lt)) l1);have HBL:=Lh (Below.refl w4.heap.size w4);(try (have HBH:=Lh (HBH.out.trans (b1.mono HBH.out.size))));have HM:=Lh (HM.out.below b1);obtain ⟨⟨t0,t1,t2,tl⟩,f0,f1,f2⟩:=HM.out.da.db.all;clear n1 l1 b1)
  | (go_simp;go_at_call 46;(with_reducible refine (HF.out _ HM.out).mono ?_);rintro e w5 ⟨A2,c2,rfl,n1,l1,b1⟩;have HEH:=Lh (And.intro (nw_low n1 (show r+1<=_ from HM.out.rb.lt)) l1);have HBH:=Lh (Below.refl w5.heap.size w5);(try (have HBL:=Lh (HBL.out.trans (b1.mono HBL.out.size))));have HM:=Lh (HM.out.below b1);obtain ⟨⟨t0,t1,t2,tl⟩,f0,f1,f2⟩:=HM.out.da.db.all;clear n1 l1 b1))
 all_goals
  have hpr:=HM.out.ne
  have hpw:=HM.out.da.old
  have HN:=Lh (show Dx.nw ⟨A1,c1,A2,c2⟩ (r+1) from ⟨HEL.out.1,HEH.out.1⟩)
  have HD:=Lh (show DR _ _ d ⟨A1,c1,A2,c2⟩ from ⟨HEL.out.2.up HBL.out,HEH.out.2.up HBH.out⟩)
  have hof:DOff d ⟨A1,c1,A2,c2⟩ p:=HN.out.off (by omega)
  have HR7:=Lh ((HM.out.rb.other (a:=⟨p,1,none⟩) (show p≠r by omega) (.slice A1 d.l.length c1)).other (a:=⟨p,2,none⟩) (show p≠r by omega) (.slice A2 d.F.length c2))
  have HD7:=Lh (HD.out.two hof (.slice A1 d.l.length c1) (.slice A2 d.F.length c2))
  have HB7:=Lh ((HM.out.da.bel.setCell (p:=⟨p,1,none⟩) hpw (.slice A1 d.l.length c1)).setCell (p:=⟨p,2,none⟩) hpw (.slice A2 d.F.length c2))
  have HFN:=Lh (dvn_out (show w.heap.size<=r by omega) HB7.out HN.out HD7.out)
  have hp1:¬p=r:=by omega
  have hp2:¬r=p:=by omega
  obtain ⟨⟨r0,r1,r2,rl⟩,g0,g1,g2⟩:=HM.out.rb.all
  clear HR7 HD7 HB7 HN HD hof HEL HEH HBL HBH HM HP HF H0 hpr hpw
  go_wp2
  exact bodyPost_ret (v:=dv d ⟨A1,c1,A2,c2⟩) (by simp only [results,Tryz.results53];go_simp <;> rfl) rfl HFN.out
end Go.Proofs.YtkecnihgjepfeaaGreat
