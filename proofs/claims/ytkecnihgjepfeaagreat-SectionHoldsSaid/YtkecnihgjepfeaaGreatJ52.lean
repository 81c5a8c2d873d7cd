/- What is proved here: parts of the proof: Ube Jtx Ubf Gce Yq Grs. -/
import Derived.Test.YtkecnihgjepfeaaGreatJ50
import Derived.Test.YtkecnihgjepfeaaGreatJ51
/- Plain: rows and a source beside the boxes of an arena and of a section; an outcome whose order and carried messages are stored. -/
namespace Go.Proofs.YtkecnihgjepfeaaGreat
open Go.RowKit
set_option linter.unusedVariables false
set_option linter.unusedSimpArgs false
set_option maxHeartbeats 8000000
set_option maxRecDepth 20000
theorem SrcAt.stN {W:World} {B g p:Nat} {vs:List Value} (h:SrcAt W B g) (hp:p≠g) (hB:B<=p) (o:Nat):SrcAt (stN15 W p o vs) B g:=by
 induction vs generalizing W o with
 | nil=>exact h
 | cons v vs ih=>exact ih (h.other (p:=⟨p,o,none⟩) hp hB v) (o+1)
structure Ex16 (w:World) (og:Option Nat) (u1 u3:Nat) (R:List Rw15) (W:World):Prop where
 r:RR W W.heap.size R
 o:ROff R u1/\ROff R u3
 g:∀ g,og=some g->SrcAt W w.heap.size g/\(u1≠g/\u3≠g)/\ROff R g
section
variable {w W W' : World} {og:Option Nat} {u1 u3 u g:Nat} {R:List Rw15}
theorem Ex16.up (h:Ex16 w og u1 u3 R W) (hb:Below W.heap.size W W'):Ex16 w og u1 u3 R W':=⟨h.r.up hb,h.o,fun g e=>⟨(h.g g e).1.below hb,(h.g g e).2⟩⟩
theorem Ex16.sto {o:Nat} {vs:List Value} (h:Ex16 w og u1 u3 R W) (or:ROff R u) (hg:∀ g,og=some g->u≠g) (hu:w.heap.size<=u):Ex16 w og u1 u3 R (stN15 W u o vs):=by
 refine ⟨?_,h.o,fun g e=>⟨(h.g g e).1.stN (hg g e) hu o,(h.g g e).2⟩⟩
 rw [stN15_size]
 exact h.r.stN or o
theorem Ex16.turn (h:Ex16 w (some g) u1 u3 R W) (hs:SrcAt W' w.heap.size g) (hg:W.grownBy W' (some g)):Ex16 w (some g) u1 u3 R W':=
 ⟨h.r.grown hg (h.g g rfl).2.2,h.o,fun x e=>by injection e with e;subst e;exact ⟨hs,(h.g g rfl).2⟩⟩
theorem Ex16.new (h:Ex16 w og u1 u3 R W) (hu:W.heap.size<=u):ROff R u/\∀ g,og=some g->u≠g:=⟨h.r.offs hu,fun g e=>by have:=(h.g g e).1.2.1;omega⟩
theorem Ex16.sto1 {o:Nat} {vs:List Value} (h:Ex16 w og u1 u3 R W) (hu:w.heap.size<=u1):Ex16 w og u1 u3 R (stN15 W u1 o vs):=h.sto h.o.1 (fun g e=>(h.g g e).2.1.1) hu
theorem Ex16.sto3 {o:Nat} {vs:List Value} (h:Ex16 w og u1 u3 R W) (hu:w.heap.size<=u3):Ex16 w og u1 u3 R (stN15 W u3 o vs):=h.sto h.o.2 (fun g e=>(h.g g e).2.1.2) hu
theorem Bx15.turn {a:Ar} {Y:Ax} {s:Se} {X:Sex} (h:Bx15 w u1 u3 a Y s X W) (hg:W.grownBy W' (some g)) (h1:u1≠g) (h3:u3≠g) (oa:AOff a Y g) (os:ROff (s.rows X) g) (hw:w.heap.size<=g):Bx15 w u1 u3 a Y s X W':=by
 have e:∀ {q:Nat} {cs:List Value},Rb W q cs->q≠g->Rb W' q cs:=fun h hne=>⟨fun j v hv=>(hg.cell_far ⟨_,j,none⟩ h.lt (fun e=>hne (by injection e))).trans (h.c j v hv),fun j=>(hg.frozen_far ⟨_,j,none⟩ h.lt (fun e=>hne (by injection e))).trans (h.f j),Nat.lt_of_lt_of_le h.lt hg.size⟩
 exact ⟨e h.r1 h1,e h.r3 h3,h.ar.grown15 hg oa,h.se.grown hg os,h.oa,h.os,h.ne,h.bel.grown hg h.bel.size (fun k e=>by injection e with e;omega)⟩
structure Ob16 (W:World) (q:Nat) (o:Ou) (Z:Oux):Prop where
 rb:Rb W q (ocl15 o Z)
 ou:OuR W W.heap.size o Z
 off:ROff (o.rows Z) q
theorem Ob16.turn {q:Nat} {o:Ou} {Z:Oux} (h:Ob16 W q o Z) (hg:W.grownBy W' (some g)) (hq:q≠g) (ho:ROff (o.rows Z) g):Ob16 W' q o Z:=
 ⟨⟨fun j v hv=>(hg.cell_far ⟨_,j,none⟩ h.rb.lt (fun e=>hq (by injection e))).trans (h.rb.c j v hv),fun j=>(hg.frozen_far ⟨_,j,none⟩ h.rb.lt (fun e=>hq (by injection e))).trans (h.rb.f j),Nat.lt_of_lt_of_le h.rb.lt hg.size⟩,h.ou.grown hg ho,h.off⟩
theorem Ob16.ord {q:Nat} {o:Ou} {Z:Oux} (h:Ob16 W q o Z) (od:List Int) (t:TypeId) (hm:od.length<=maxLen) :
  Ob16 ((W.setCell ⟨q,3,none⟩ (.slice (some ⟨W.heap.size,0,none⟩) od.length od.length)).alloc (.cells (ics od).toArray t)) q ⟨o.sh,o.dc,o.dl,od,o.ca,o.ed⟩ { Z with Ao:=some ⟨W.heap.size,0,none⟩,co:=od.length }:=by
 obtain ⟨W1,hW1⟩:∃ W1,W1=W.setCell ⟨q,3,none⟩ (.slice (some ⟨W.heap.size,0,none⟩) od.length od.length):=⟨_,rfl⟩
 have e0:W1.heap.size=W.heap.size:=by rw [hW1];simp
 have hb1:Rb W1 q (ocl15 ⟨o.sh,o.dc,o.dl,od,o.ca,o.ed⟩ { Z with Ao:=some ⟨W.heap.size,0,none⟩,co:=od.length }):=by
  rw [hW1]
  exact h.rb.set (j:=3) (show 3<6 by decide) _
 have hr1:RR W1 W1.heap.size (o.rows Z):=by
  have:=h.ou.r.offp (q:=⟨q,3,none⟩) h.off (.slice (some ⟨W.heap.size,0,none⟩) od.length od.length)
  rw [e0,hW1]
  exact this
 have hn:=Rb.start W1 (ics od) t
 rw [e0] at hn
 have hf:Fl (W1.alloc (.cells (ics od).toArray t)) (W1.alloc (.cells (ics od).toArray t)).heap.size (.slice (some ⟨W.heap.size,0,none⟩) od.length od.length) od:=hn.fl (nLR _) hm
 have hal:=(Below.refl W1.heap.size W1).alloc (nLR _) (.cells (ics od).toArray t)
 have h1:=hr1.up hal
 have hk:=h.ou.ok
 rw [<-hW1]
 have hlt:q<W.heap.size:=h.rb.lt
 refine ⟨hb1.up hal,⟨ou_rows_of (fun x hx=>h1 x (by simp only [Ou.rows,List.mem_append];exact .inl hx)) (h1 ⟨7,Z.Ad,o.dl.length,lcs o.dl⟩ (by simp [Ou.rows])) hf.rd (h1 ⟨7,Z.Ac,o.ca.length,lcs o.ca⟩ (by simp [Ou.rows])) (h1 ⟨4,Z.Ae,o.ed.length,edcs o.ed⟩ (by simp [Ou.rows])),⟨hk.q,hk.qc,hk.c.1,hk.c.2.1,⟨nLR _,hm⟩,hk.c.2.2.2.1,hk.c.2.2.2.2⟩⟩,fun x hx=>?_⟩
 simp only [Ou.rows,List.mem_append,List.mem_cons,List.not_mem_nil,or_false] at hx
 rcases hx with hx | rfl | rfl | rfl | rfl
 ·exact h.off x (by simp only [Ou.rows,List.mem_append];exact .inl hx)
 ·exact h.off ⟨7,Z.Ad,o.dl.length,lcs o.dl⟩ (by simp [Ou.rows])
 ·intro _ a ha
  injection ha with ha
  subst ha
  exact Nat.ne_of_gt hlt
 ·exact h.off ⟨7,Z.Ac,o.ca.length,lcs o.ca⟩ (by simp [Ou.rows])
 ·exact h.off ⟨4,Z.Ae,o.ed.length,edcs o.ed⟩ (by simp [Ou.rows])
end
end Go.Proofs.YtkecnihgjepfeaaGreat
/- Plain: a row of lockers begins. -/
namespace Go.Proofs.YtkecnihgjepfeaaGreat
open Go.RowKit
set_option linter.unusedVariables false
set_option linter.unusedSimpArgs false
set_option maxHeartbeats 8000000
set_option maxRecDepth 20000
theorem nw_ow {s:Su} (hs:s.Ok):(nwA s).ow=0:=by
 rw [show nwA s=grA s s.sl.toNat s.sl.toNat s.dd from if_pos (suB_iff.2 hs)]
 rfl
theorem own_all {A0:Ar} {n:Nat} (h:Ca12 A0 n) (h0:A0.ow=0) (c:Nat) (hc:c<=n):A0.own c=0:=by
 rcases Nat.lt_or_ge c n with h1 | h1
 ·exact h.ow c h1
 ·unfold Ar.own
  rw [if_pos (by rw [h.sl];omega)]
  exact h0
end Go.Proofs.YtkecnihgjepfeaaGreat
/- Plain: a section that begins in a new arena. -/
namespace Go.Proofs.YtkecnihgjepfeaaGreat
open Go.RowKit
set_option linter.unusedVariables false
set_option linter.unusedSimpArgs false
set_option maxHeartbeats 8000000
set_option maxRecDepth 20000
theorem okd_rg {d:Dd} (h:OkD d) {k:Nat} (hk:k<d.l.length):0<=(sg d.l k).lo/\(sg d.l k).lo<=(sg d.l k).hi/\(sg d.l k).hi<65536:=by
 have h4:∀ m,m<d.l.length->0<=(sg d.l m).lo:=by
  intro m
  induction m with
  | zero=>intro hm;rw [(h.sp 0 hm).1,nxD_zero];exact Int.le_refl _
  | succ m ih=>
   intro hm
   have:=ih (by omega)
   have h5:=(h.sp m (by omega)).2.1
   rw [(h.sp (m+1) hm).1,nxD_succ]
   omega
 have h1:=h4 k hk
 have h2:=(h.sp k hk).2
 omega
theorem nw_sh {s:Su} (hs:s.Ok) {x:Nat} (hx:x<s.sl.toNat):shV (og (nwA s).sl x).sh=0:=by
 have hb:=suB_iff.2 hs
 have hok:=hs
 unfold Su.Ok at hok
 rw [show nwA s=grA s s.sl.toNat s.sl.toNat s.dd from if_pos hb,og_get (by rw [grA_sl];exact hx)]
 have e1:((grA s s.sl.toNat s.sl.toNat s.dd).sl[x]'(by rw [grA_sl];exact hx)).sh=ffS (nwD s.sl s.lv) (x:Int) s.cp.toNat:=by simp [grA,nwSl]
 rw [e1]
 obtain ⟨n,hn⟩:∃ n:Nat,s.sl=n:=⟨s.sl.toNat,by omega⟩
 obtain ⟨m,hm⟩:∃ m:Nat,s.lv=m:=⟨s.lv.toNat,by omega⟩
 rw [hn,hm,ffS_nw (by omega) (by omega) (by omega)]
 by_cases hxm:x<m
 ·rw [if_pos hxm]
  have hva:=nw_va (n:=n) (m:=m) (by omega) (by omega) (by omega)
  have hl:(nwD (n:Int) (m:Int)).l.length=m:=by
   unfold nwD
   rw [if_pos (show nwE10 (n:Int) (m:Int)=0 by unfold nwE10;rw [if_pos (by omega)])]
   show (nwL ((m:Int)).toNat ((m:Int)).toNat).length=m
   rw [nwL_len];omega
  have hr:=okd_rg (ok_va hva) (k:=x) (by rw [hl];exact hxm)
  have hc:((s.cp.toNat:Nat):Int)=s.cp:=by omega
  exact new_sh15 (n:=s.cp.toNat) (by omega) (by omega) hr
 ·rw [if_neg hxm]
  exact fr_va (by omega) (by omega)
theorem cx_nw {s:Su} (hs:s.Ok):nwAE s=0/\∃ N,N=s.sl.toNat/\(0<N/\N<=6)/\(nwA s).sl.length=N/\∀ (cs:List Int) (t lim:Int),OkC N cs->1<=cs.length/\cs.length<=2->1<=t/\t<=9->1<=lim/\lim<=8->
  (⟨N,cs,t,lim,nwA s⟩:Cx15).Ok/\nwE15 cs lim=0/\Hx15 (⟨N,cs,t,lim,nwA s⟩:Cx15) (pL15 0) (nwA s) (nwS15 cs lim):=by
 have hb:=suB_iff.2 hs
 have hok:=hs
 unfold Su.Ok at hok
 obtain ⟨hE,n,n0,n6,hca⟩:=ca_nw hs
 have how:=own_all hca (nw_ow hs)
 have hsl:(nwA s).sl.length=s.sl.toNat:=by
  rw [show nwA s=grA s s.sl.toNat s.sl.toNat s.dd from if_pos hb];exact grA_sl _ _ _ _
 have hst:(nwA s).st.length=s.sl.toNat:=by
  rw [show nwA s=grA s s.sl.toNat s.sl.toNat s.dd from if_pos hb];exact grA_st _ _ _ _
 have hnn:n=s.sl.toNat:=hca.sl.symm.trans hsl
 have e0:(nwA s).ep=s.ep/\(nwA s).cap=s.dd/\(nwA s).dl=[]/\(nwA s).st=List.replicate s.sl.toNat (stE s):=by
  rw [show nwA s=grA s s.sl.toNat s.sl.toNat s.dd from if_pos hb]
  exact ⟨rfl,rfl,rfl,rfl⟩
 refine ⟨hE,s.sl.toNat,rfl,by omega,hsl,fun cs t lim hc hl ht hm=>?_⟩
 have hn:=okc_new hc hl.1 (by omega)
 have hE15:nwE15 cs lim=0:=by unfold nwE15;rw [if_neg (by rw [hn.1];decide),if_neg (by omega)]
 have hs15:nwS15 cs lim=⟨0,0,⟨cs,0,0,0,0⟩,zSn,[],0,[],[],zD10,zOu,lim,[]⟩:=by unfold nwS15;rw [if_pos hE15,hn.2]
 refine ⟨⟨hc,hl,ht,hm,fun x hx=>nw_sh hs hx,fun x hx=>?_,by rw [e0.1];omega,?_⟩,hE15,⟨⟨hsl,hst,fun _ _=>rfl,rfl,rfl,rfl,hca.fw,Ow15.start (fun x hx=>how x (by rw [hnn];exact hx)),Sq15.start (fun x hx=>nw_sq hb hx),fun x hx=>?_⟩,?_⟩⟩
 ·have hx2:x<(nwA s).sl.length:=by rw [hsl];exact hx
  show (og (nwA s).sl x).sh.cs.length<=1000/\_
  rw [og_get hx2]
  exact hca.fw.sh _ (List.getElem_mem hx2)
 ·show va8 (nwA s).cap (nwA s).dl=0/\(nwA s).dl.length<=1000
  rw [e0.2.1,e0.2.2.1]
  refine ⟨?_,by simp⟩
  unfold va8
  rw [wi_true (show 1<=s.dd by omega) (show s.dd<=24 by omega),if_neg (by decide),if_neg (by simp;omega)]
  have hd:¬dupP ([]:List Msg):=by simp [dupP]
  unfold so8
  rw [if_neg (show ¬fe []≠0 from fun h=>h rfl),if_neg (by rw [dp8_no hd];decide)]
 ·show StR15 (tg (nwA s).st x)
  have e1:tg (nwA s).st x=stE s:=by
   rw [e0.2.2.2]
   unfold tg
   rw [List.getD_eq_getElem?_getD,List.getElem?_replicate,if_pos hx]
   rfl
  rw [e1]
  exact ⟨⟨by show 0<=s.ep;omega,by show s.ep<=_;omega⟩,⟨by show (0:Int)<=0;omega,by show (0:Int)<=1099511627776;omega⟩,⟨by show (0:Int)<=0;omega,by show (0:Int)<=1099511627776;omega⟩⟩
 ·rw [hs15]
  exact ⟨rfl,rfl,rfl,⟨rfl,fun h=>absurd h (by decide)⟩,rfl,fun i hi=>absurd hi (by show ¬i<min 0 _;omega),⟨.inl rfl,fun h=>absurd h (by show ¬_<0;omega)⟩,rfl,fun i h1 h2=>absurd h2 (Nat.not_lt_zero _),rfl,rfl,rfl,rfl,⟨by decide,by decide,by decide,by decide⟩⟩
end Go.Proofs.YtkecnihgjepfeaaGreat
namespace Go.Proofs.YtkecnihgjepfeaaGreat
open Go.RowKit
set_option linter.unusedVariables false
set_option linter.unusedSimpArgs false
set_option maxHeartbeats 8000000
set_option maxRecDepth 20000
def SrCells2 (N B g:Nat) (w:World) (e:Ending) (w' : World):Prop:=∃ A c cs,e=.returned (.slice A cs.length c)/\OkC N cs/\(1<=cs.length/\cs.length<=2)/\Nw w.heap.size A/\Fl w' w'.heap.size (.slice A cs.length c) cs/\SrcAt w' B g/\w.grownBy w' (some g)
theorem okc_1 {N:Nat} {x:Int} (h0:0<=x) (h1:x<=N):OkC N [x]:=by
 refine ⟨by simp,fun i j hij hj=>?_,fun i hi=>?_⟩
 ·simp at hj;omega
 ·simp at hi
  subst hi
  exact ⟨h0,h1⟩
theorem okc_2 {N:Nat} {x y:Int} (h0:0<=x) (h1:x<y) (h2:y<=N):OkC N [x,y]:=by
 refine ⟨by simp,fun i j hij hj=>?_,fun i hi=>?_⟩
 ·simp at hj
  obtain rfl:i=0:=by omega
  obtain rfl:j=1:=by omega
  exact h1
 ·simp at hi
  rcases (show i=0\/i=1 by omega) with rfl | rfl
  ·exact ⟨h0,by show x<=N;omega⟩
  ·exact ⟨by show 0<=y;omega,h2⟩
theorem cells_out {N B g:Nat} {w W:World} {cs:List Int} {t:TypeId} (hs:SrcAt W B g) (hg:w.grownBy W (some g)) (hc:OkC N cs) (hl:1<=cs.length/\cs.length<=2):SrCells2 N B g w (.returned (.slice (some ⟨W.heap.size,0,none⟩) cs.length cs.length)) (W.alloc (.cells (ics cs).toArray t)):=by
 have hb:Below W.heap.size W (W.alloc (.cells (ics cs).toArray t)):=(Below.refl _ _).alloc (nLR _) _
 have hr:Rb (W.alloc (.cells (ics cs).toArray t)) W.heap.size (ics cs):=⟨fun j u hu=>by simp [go_sem,hu],fun o=>by simp [go_sem],by simp⟩
 exact ⟨_,_,cs,rfl,hc,hl,nw_some hg.size,hr.fl (nLR _) (by have:=hl.2;unfold maxLen;omega),hs.below hb,only_below hg hb⟩
theorem cells15_any (N B g:Nat) (w:World) (hsrc:SrcAt w B g) (h1:1<=N) (hN:N<=1000):Calls Tryz.prog 8 #[.pointer (some ⟨g,0,none⟩),.int .i64 (N:Int)] w (SrCells2 N B g w):=by
 have HS:=Lh hsrc
 have HN:=Lh (And.intro h1 hN)
 have hw:IntKind.i64.wrap ((N:Int)+1)=(N:Int)+1:=IntWalk.i64_in _ (by omega)
 clear hsrc h1 hN
 go_enter Tryz.func8,Tryz.ntmps8
 go_wp2_with fail
 refine (n_any B g _ HS.out (N:Int) (by have:=HN.out;omega) (by have:=HN.out;omega)).mono ?_
 rintro e w1 ⟨a,rfl,a1,a2,hs,hg⟩
 have HA:=Lh (And.intro a1 a2)
 have HS:=Lh hs
 have HG:=Lh hg
 clear a1 a2 hs hg
 go_wp2_with fail
 refine (n_any B g _ HS.out ((N:Int)+1) (by have:=HN.out;omega) (by have:=HN.out;omega)).mono ?_
 rintro e w2 ⟨b,rfl,b1,b2,hs,hg⟩
 have HB:=Lh (And.intro b1 b2)
 have HS:=Lh hs
 have HG:=Lh (HG.out.trans hg)
 clear b1 b2 hs hg
 go_wp2_with fail
 refine (n_any B g _ HS.out 6 (by omega) (by omega)).mono ?_
 rintro e w3 ⟨k,rfl,-,-,hs,hg⟩
 have HS:=Lh hs
 have HG:=Lh (HG.out.trans hg)
 clear hs hg
 by_cases hk:k=5
 ·have hkb:(k==5)=true:=by simp [hk]
  have HF:=Lh (cells_out (cs:=[(N:Int)]) (t:=3) HS.out HG.out (okc_1 (N:=N) (by omega) (by omega)) ⟨by simp,by simp⟩)
  clear hk
  go_wp2
  go_ret
  exact HF.out
 ·have hkb:(k==5)=false:=by simp [hk]
  clear hk
  by_cases hab:a=b
  ·have habb:(a==b)=true:=by simp [hab]
   have HF:=Lh (cells_out (cs:=[a]) (t:=3) HS.out HG.out (okc_1 (N:=N) HA.out.1 (by have:=HA.out;omega)) ⟨by simp,by simp⟩)
   clear hab
   go_wp2
   go_ret
   exact HF.out
  ·have habb:(a==b)=false:=by simp [hab]
   have HAB:=Lh hab
   clear hab
   go_wp2_with fail
   refine (n_any B g _ HS.out 2 (by omega) (by omega)).mono ?_
   rintro e w4 ⟨m,rfl,-,-,hs,hg⟩
   have HS:=Lh hs
   have HG:=Lh (HG.out.trans hg)
   clear hs hg
   by_cases hm:m=0
   ·have hmb:(m==0)=true:=by simp [hm]
    have HF:=Lh (cells_out (cs:=[a]) (t:=3) HS.out HG.out (okc_1 (N:=N) HA.out.1 (by have:=HA.out;omega)) ⟨by simp,by simp⟩)
    clear hm
    go_wp2
    go_ret
    exact HF.out
   ·have hmb:(m==0)=false:=by simp [hm]
    have HF:=Lh (cells_out (cs:=[min a b,max a b]) (t:=3) HS.out HG.out (okc_2 (N:=N) (by have:=HA.out;have:=HB.out;omega) (by have:=HAB.out;omega) (by have:=HA.out;have:=HB.out;omega)) ⟨by simp,by simp⟩)
    clear hm
    go_wp2
    go_ret
    exact HF.out
theorem rquiet_any (A:Option Addr) (n c:Nat) (l:List St) (w:World) (hv:Tl w w.heap.size (.slice A n c) l) :
  Calls Tryz.prog 16 #[.slice A n c] w fun e w'=>e=.returned (.bool (quB l))/\w' = w:=by
 obtain ⟨rfl,hm1,hm2⟩:=hv.len
 have hL:l.length<=9223372036854775807:=by unfold maxLen at hm2;omega
 have HV:=Lh hv
 clear hv hm1 hm2
 go_enter Tryz.func16,Tryz.ntmps16
 go_wp2
 go_loopw [3] (fun i wr=>∃ k:Nat,k<=l.length/\i=.int .i64 k/\wr=w/\∀ j,j<k->(tg l j).sq % 2=0) (fun i _=>l.length - (intOf i).toNat)
 case atStart=>exact ⟨0,by omega,rfl,rfl,fun j h=>absurd h (by omega)⟩
 case round=>
  obtain ⟨k,hk,rfl,rfl,hno⟩:=hrel
  have HN:=Lh hno
  clear hno
  by_cases hlt:k<l.length
  ·obtain ⟨b,o,rfl,hb,c0,c1,c2,c3⟩:=HV.out.atg hlt
   have hem:=evB_not (tg l k).sq
   by_cases he:(tg l k).sq % 2=0
   ·have HNN:=Lh (show ∀ j,j<k+1->(tg l j).sq % 2=0 from fun j h=>by
     by_cases e:j=k
     ·rw [e];exact he
     ·exact HN.out j (by omega))
    rw [evB_yes he] at hem
    clear he
    generalize tg l k=M at*
    go_wp2
    go_roundw
    case rel=>exact ⟨k+1,by omega,by go_num,by simp,HNN.out⟩
    case measure=>simp [intOf];omega
   ·have HR:=Lh (quB_no hlt he)
    rw [evB_no he] at hem
    clear he
    generalize tg l k=M at*
    go_wp2
    go_ret
    exact ⟨by rw [HR.out];rfl,rfl⟩
  ·have HR:=Lh (quB_yes (fun j hj=>HN.out j (by omega)))
   go_wp2
   go_ret
   exact ⟨by rw [HR.out];rfl,rfl⟩
abbrev C8h (W:World) (b o:Nat) (S:Sh) (D:Sx):Prop:=W.cell? ⟨b,o,none⟩=some (.bool S.lv)/\W.cell? ⟨b,o+1,none⟩=some (.int .i64 S.lo)/\W.cell? ⟨b,o+2,none⟩=some (.int .i64 S.hi)/\W.cell? ⟨b,o+3,none⟩=some (.slice D.A S.cs.length D.c)/\W.cell? ⟨b,o+4,none⟩=some (.int .i64 S.hd)/\W.cell? ⟨b,o+5,none⟩=some (.int .i64 S.sz)/\W.cell? ⟨b,o+6,none⟩=some (.slice D.A2 S.l.length D.c2)/\W.cell? ⟨b,o+7,none⟩=some (.slice D.A3 S.h.length D.c3)
end Go.Proofs.YtkecnihgjepfeaaGreat
