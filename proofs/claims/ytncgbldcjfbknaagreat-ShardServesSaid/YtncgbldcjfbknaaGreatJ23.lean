/- What is proved here: shard.pull of what Take wants, by a contract; shard.handleError by a contract; shard.giveBack by contracts; shard.Ack by a contract; shard.Nack by a contract. -/
import Derived.Test.YtncgbldcjfbknaaGreatJ22
namespace Go.Proofs.YtncgbldcjfbknaaGreat
open Go.RowKit
set_option linter.unusedVariables false
def CapAt (b1 b2:Nat) (ep lim:Int) (W:World):Prop:=W.cell? ⟨b1,0,none⟩=some (.int .i64 ep)∧W.cell? ⟨b2,0,none⟩=some (.int .i64 lim)∧b1<W.heap.size∧b2<W.heap.size
theorem CapAt.below {b1 b2:Nat} {ep lim:Int} {w W:World} (h:CapAt b1 b2 ep lim w) (hb:Below w.heap.size w W):CapAt b1 b2 ep lim W:=
 ⟨(hb.cell (p:=⟨b1,0,none⟩) h.2.2.1).trans h.1,(hb.cell (p:=⟨b2,0,none⟩) h.2.2.2).trans h.2.1,Nat.lt_of_lt_of_le h.2.2.1 hb.size,Nat.lt_of_lt_of_le h.2.2.2 hb.size⟩
set_option maxHeartbeats 1000000 in
theorem take1_any (b1 b2:Nat) (ep lim:Int) (M:Msg) (w:World) (h:CapAt b1 b2 ep lim w) :
  Calls Tryz.prog 46 #[M.v,.pointer (some ⟨b1,0,none⟩),.pointer (some ⟨b2,0,none⟩)] w fun e w'=>e=.returned (.bool (rvF M ep lim))∧Below w.heap.size w w':=by
 have HB:=Lh ((Below.refl w.heap.size w).alloc (Nat.le_refl _) (.cells M.cs 56))
 have HR:=Lh (fun W=>receivable_any M ep lim W)
 obtain ⟨h1,h2,h3,h4⟩:=h
 generalize rvF M ep lim=b at*
 go_enter Tryz.func46,Tryz.ntmps46
 go_wp2_with fail
 refine (HR.out _).mono ?_
 rintro e w1 ⟨rfl,hb⟩
 have HB1:=Lh (HB.out.trans (hb.mono HB.out.size))
 clear hb
 go_wp2
 go_ret
 exact ⟨rfl,HB1.out⟩
section
variable {V:Vs} {mx:Nat} {f:Msg→Bool} {i:Nat}
theorem pull_rm (k:V.Ok) (hi:i<V.L.length) (h1:(pk mx f (V.L.take i)).1.length<mx) (h2:f V.L[i]=true) {S S' : Sh} (hS:S=(V.ring (pkL mx f V.L i)).sh) (hS' : S' = (V.ring (pkL mx f V.L (i+1))).sh) :
  S' = ⟨S.lv,S.lo,S.hi,rmC S.cs S.hd S.sz V.L[i].id,ifE (rmE S.cs S.hd S.sz V.L[i].id) S.hd,ifE (rmE S.cs S.hd S.sz V.L[i].id) (S.sz - 1),S.l,S.h⟩:=by
 subst hS hS'
 obtain ⟨hj,ej⟩:=pkL_at (mx:=mx) (p:=f) hi
 have hs:=pkL_sub (mx:=mx) (p:=f) (L:=V.L) i
 have hg:=gd_sub hs k.gL
 have hl:(pkL mx f V.L i).length≤V.n:=by have:=hs.length_le;have:=k.lenL;omega
 obtain ⟨e1,e2,-⟩:=rm_fil k.n1 k.n2 k.hh hl hg hj
 rw [ej] at e1 e2
 rw [←pkL_yes hi h1 h2] at e2
 have el:((pkL mx f V.L (i+1)).length:Int)=((pkL mx f V.L i).length:Int) - 1:=by
  rw [pkL_yes hi h1 h2,List.length_eraseIdx_of_lt hj];omega
 show Sh.mk true V.lo V.hi (fil V.n V.hd (pkL mx f V.L (i+1))) V.hd (pkL mx f V.L (i+1)).length V.l V.h=Sh.mk true V.lo V.hi (rmC (fil V.n V.hd (pkL mx f V.L i)) V.hd (pkL mx f V.L i).length V.L[i].id) (ifE (rmE (fil V.n V.hd (pkL mx f V.L i)) V.hd (pkL mx f V.L i).length V.L[i].id) V.hd) (ifE (rmE (fil V.n V.hd (pkL mx f V.L i)) V.hd (pkL mx f V.L i).length V.L[i].id) ((pkL mx f V.L i).length - 1)) V.l V.h
 rw [e1,e2,el]
 rfl
end
def SLs (w:World) (S:Sh) (l:List Msg) (e:Ending) (w' : World):Prop:=∃ D A c,e=.returned (.tuple #[sv S D,.slice A l.length c])∧D.nw w.heap.size∧SR w' w'.heap.size S D∧Nw w.heap.size A∧Ls w' w'.heap.size (.slice A l.length c) l∧Below w.heap.size w w'
theorem Ls.grownR {W W' : World} {B n c:Nat} {A:Option Addr} {l:List Msg} (h:Ls W B (.slice A n c) l) (hB:B≤W.heap.size) {row:Option Nat} (hg:W.grownBy W' row) (ho:∀ q,row=some q→OffB q n A):Ls W' B (.slice A n c) l:=by
 obtain ⟨h1,h2,h3⟩:=h.len
 subst h1
 refine ⟨A,c,rfl,h2,h3,h.rd.1,fun hn=>?_⟩
 obtain ⟨b,o,e,hb,hc⟩:=h.rd.2 hn
 exact ⟨b,o,e,hb,fun j u hu=>(hg.cell_far ⟨b,o+j,none⟩ (Nat.lt_of_lt_of_le hb hB) (fun e'=>ho b e'.symm hn _ e rfl)).trans (hc j u hu)⟩
theorem El.grownR {W W' : World} {B n c:Nat} {A:Option Addr} {l:List Le} (h:El W B (.slice A n c) l) (hB:B≤W.heap.size) {row:Option Nat} (hg:W.grownBy W' row) (ho:∀ q,row=some q→OffB q n A):El W' B (.slice A n c) l:=by
 obtain ⟨h1,h2,h3⟩:=h.len
 subst h1
 refine ⟨A,c,rfl,h2,h3,h.rd.1,fun hn=>?_⟩
 obtain ⟨b,o,e,hb,hc⟩:=h.rd.2 hn
 exact ⟨b,o,e,hb,fun j u hu=>(hg.cell_far ⟨b,o+j,none⟩ (Nat.lt_of_lt_of_le hb hB) (fun e'=>ho b e'.symm hn _ e rfl)).trans (hc j u hu)⟩
theorem Dl.grownR {W W' : World} {B n c:Nat} {A:Option Addr} {l:List Du} (h:Dl W B (.slice A n c) l) (hB:B≤W.heap.size) {row:Option Nat} (hg:W.grownBy W' row) (ho:∀ q,row=some q→OffB q n A):Dl W' B (.slice A n c) l:=by
 obtain ⟨h1,h2,h3⟩:=h.len
 subst h1
 refine ⟨A,c,rfl,h2,h3,h.rd.1,fun hn=>?_⟩
 obtain ⟨b,o,e,hb,hc⟩:=h.rd.2 hn
 exact ⟨b,o,e,hb,fun j u hu=>(hg.cell_far ⟨b,o+j,none⟩ (Nat.lt_of_lt_of_le hb hB) (fun e'=>ho b e'.symm hn _ e rfl)).trans (hc j u hu)⟩
theorem SAt.grown {w W W' : World} {p:Nat} {S:Sh} {D:Sx} (h:SAt w p S D W) {row:Option Nat} (hg:W.grownBy W' row) (ho:∀ q,row=some q→SOff S D q∧p<q):SAt w p S D W':=
 ⟨h.s8.grown hg (fun x e=>by have:=(ho x e).2;omega),⟨(h.sr.ls.grownR (Nat.le_refl _) hg (fun q e=>(ho q e).1.o1)).more hg.size,(h.sr.el.grownR (Nat.le_refl _) hg (fun q e=>(ho q e).1.o2)).more hg.size,(h.sr.dl.grownR (Nat.le_refl _) hg (fun q e=>(ho q e).1.o3)).more hg.size⟩,h.off,
  h.bel.grown hg h.bel.size (fun x e=>by have:=(ho x e).2;have:=h.old;omega),h.old⟩
structure PullAt (w:World) (p r B:Nat) (S:Sh) (D:Sx) (A0:Option Addr) (c0:Nat) (L:List Msg) (lv:Value) (T:List Msg) (W:World):Prop where
 sa:SAt w p S D W
 rs:SB8 W r zS zX
 l0:Ls W B (.slice A0 L.length c0) L
 o0:OffB p L.length A0
 own:W.ownsRow B 56 7 lv T.length (lcs T)
 dj:∀ q,lv.ownBlock=some q→SOff S D q
 dr:D.nw (r+1)
 ne:p<r∧r<B∧B≤W.heap.size
section
variable {w W W' : World} {p r B c0:Nat} {S:Sh} {D:Sx} {A0:Option Addr} {L T:List Msg} {lv:Value}
theorem own_below {base e size n:Nat} {v:Value} {xs:List Value} (h:W.ownsRow base e size v n xs) (hb:Below W.heap.size W W'):W'.ownsRow base e size v n xs:=by
 refine ⟨h.1,h.2.imp_right fun ⟨g,cap,cur,hv,hg,hh,r⟩=>⟨g,cap,cur,hv,hg,?_,r⟩⟩
 rw [←hh]
 exact hb.block g (Array.getElem?_eq_some_iff.1 hh).1
theorem own_set {base e size n:Nat} {v:Value} {xs:List Value} (h:W.ownsRow base e size v n xs) {q:Addr} (hq:q.block<base) (u:Value):(W.setCell q u).ownsRow base e size v n xs:=by
 refine ⟨h.1,h.2.imp_right fun ⟨g,cap,cur,hv,hg,hh,r⟩=>⟨g,cap,cur,hv,hg,?_,r⟩⟩
 rw [←hh]
 exact Below.heap_setCell W q u g (by omega)
theorem own_sets {base e size n:Nat} {v:Value} {xs:List Value} {r:Nat} (hr:r<base):∀ (vs:List Value) (m:Nat) (W:World),W.ownsRow base e size v n xs→(W.setCells r m vs).ownsRow base e size v n xs
 | [],_,_,h=>h
 | u::vs,m,W,h=>own_sets hr vs (m+1) _ (own_set h (q:=⟨r,m,none⟩) hr u)
theorem PullAt.below (h:PullAt w p r B S D A0 c0 L lv T W) (hb:Below W.heap.size W W'):PullAt w p r B S D A0 c0 L lv T W':=
 ⟨h.sa.below hb,h.rs.up hb,h.l0.below (hb.mono h.ne.2.2),h.o0,own_below h.own hb,h.dj,h.dr,h.ne.1,h.ne.2.1,Nat.le_trans h.ne.2.2 hb.size⟩
theorem PullAt.setRing {A:Option Addr} {c:Nat} {cs:List Msg} (h:PullAt w p r B S D A0 c0 L lv T W) (hd sz:Int) (hl:Ls W W.heap.size (.slice A cs.length c) cs) {lo:Nat} (hn:Nw lo A) (hlo:B≤lo) (hrow:∀ q,lv.ownBlock=some q→q<lo) :
  PullAt w p r B ⟨S.lv,S.lo,S.hi,cs,hd,sz,S.l,S.h⟩ ⟨A,c,D.A2,D.c2,D.A3,D.c3⟩ A0 c0 L lv T (((W.setCell ⟨p,3,none⟩ (.slice A cs.length c)).setCell ⟨p,4,none⟩ (.int .i64 hd)).setCell ⟨p,5,none⟩ (.int .i64 sz)):=by
 have hne:=h.ne
 exact ⟨h.sa.setRing hd sz hl (offb_nw hn (by omega)),((h.rs.other (q:=⟨p,3,none⟩) (show p≠r by omega) _).other (q:=⟨p,4,none⟩) (show p≠r by omega) _).other (q:=⟨p,5,none⟩) (show p≠r by omega) _,
  ((h.l0.offp (p:=⟨p,3,none⟩) h.o0 _).offp (p:=⟨p,4,none⟩) h.o0 _).offp (p:=⟨p,5,none⟩) h.o0 _,h.o0,
  own_set (own_set (own_set h.own (q:=⟨p,3,none⟩) (show p<B by omega) _) (q:=⟨p,4,none⟩) (show p<B by omega) _) (q:=⟨p,5,none⟩) (show p<B by omega) _,
  fun q e=>⟨offb_nw hn (hrow q e),(h.dj q e).o2,(h.dj q e).o3⟩,⟨nw_low hn (by omega),h.dr.n2,h.dr.n3⟩,hne.1,hne.2.1,by simpa using hne.2.2⟩
theorem PullAt.app {lv' : Value} {T' : List Msg} (h:PullAt w p r B S D A0 c0 L lv T W) (ho:W'.ownsRow B 56 7 lv' T'.length (lcs T')) (hg:W.grownBy W' lv.ownBlock) (hw:∀ q,lv'.ownBlock=some q→lv.ownBlock=some q∨W.heap.size≤q):PullAt w p r B S D A0 c0 L lv' T' W':=by
 have hne:=h.ne
 have hlt:∀ q,lv.ownBlock=some q→B≤q:=fun q e=>(h.own.lt q e).1
 refine ⟨h.sa.grown hg (fun q e=>⟨h.dj q e,by have:=hlt q e;omega⟩),h.rs.grown hg (fun q e=>by have:=hlt q e;omega),h.l0.grownR hne.2.2 hg (fun q e=>?_),h.o0,ho,fun q e=>?_,h.dr,hne.1,hne.2.1,Nat.le_trans hne.2.2 hg.size⟩
 ·exact rd_off h.l0.rd (hlt q e)
 ·rcases hw q e with e' | e'
  ·exact h.dj q e'
  ·exact h.sa.sr.offs e'
end
theorem rcs_app (a b:List Rn):rcs (a++b)=rcs a++rcs b:=by simp [rcs]
theorem rcs_one (R:List Rn):∀ u∈rcs R,u.oneCell' = true:=by
 intro u hu
 obtain ⟨x,_,h⟩:=List.mem_flatMap.1 hu
 simp only [Rn.l,List.mem_cons,List.not_mem_nil,or_false] at h
 rcases h with rfl | rfl | rfl <;> rfl
theorem info_rn:(Tryz.prog.info? 82).map (fun i=>(i.zero,i.size,i.bytes))=some (some (.agg #[.int .i64 0,.int .i64 0,.int .i64 0]),3,24):=by kernel_rfl
theorem step_append_nl {P:Program} (w:World) {ops:Array Oper} {o:Oper} {a:Act} {K:Act→World→Prop} {Q:Exit→Act→World→Prop} {E:Prop} (hgd:o.guard=none)
  (s x:Operand) (t:TypeId) (hop:o.op=Op.call { callee:=Callee.builtin Builtin.append,args:=#[s,x],argTypes:=#[t,t] })
  (e:TypeId) (i:TypeInfo) (z:Value) (bytes:Nat) (h1:P.underlying t=some (.slice e)) (h2:P.info? e=some i) (h3:i.zero=some z) (h4:i.size=3) (h5:i.bytes=bytes) (h6:z.cells.size=3)
  (B:Nat) (A:Option Addr) (R R2:List Rn) (hs:a.eval s=.slice A R.length R.length) (hn:Nl w B (.slice A R.length R.length) R) (h0:A=none→R=[])
  (ad:Addr) (cx:Nat) (hx:a.eval x=.slice (some ad) R2.length cx) (hc:∀ j u,(rcs R2)[j]? = some u→w.cell? (ad.add j)=some u) (hm:0<R2.length)
  (b1:R.length+R2.length≤maxLen) (b2:(R.length+R2.length)*bytes≤140737488355328)
  (h:∀ v' w',Nl w' w'.heap.size v' (R++R2)→w.grownBy w' none→K (a.put o.dst v') w') :
  if Region.wanted o (yielded ops a.tmps)=true then Oper.wp P o a w K Q else E:=by
 have hwt:Region.wanted o (yielded ops a.tmps)=true:=by simp [Region.wanted,hgd]
 rw [if_pos hwt]
 have hown:∀ v' w',w'.ownsRow w.heap.size e 3 v' (R.length+R2.length) (rcs R++rcs R2)→Nl w' w'.heap.size v' (R++R2):=fun v' w' ho=>by
  rw [←rcs_app] at ho
  obtain ⟨A',c',rfl⟩:=own_form ho
  have hr:=Rd.of_own ho
  have hcap:R.length+R2.length≤c'∧c'≤maxLen:=by
   rcases ho.2 with ⟨hv,h0⟩ | ⟨g,cap,cur,hv,_,_,hl,hm',_⟩
   ·omega
   ·injection hv with e1 e2 e3;subst e3;exact ⟨hl,hm'⟩
  exact ⟨A',c',by rw [List.length_append],by rw [List.length_append];exact hcap.1,hcap.2,by rw [List.length_append];exact hr⟩
 cases A with
 | some b=>
  obtain ⟨A',c',e',k1,k2,hr⟩:=hn
  injection e' with e1 _ e3
  subst e1
  have hold:∀ j u,(rcs R)[j]? = some u→w.cell? (b.add j)=some u:=fun j u hu=>by
   have hlt:=(List.getElem?_eq_some_iff.1 hu).1
   rw [rcs_len] at hlt
   obtain ⟨b',o',e2,_,hc'⟩:=hr.2 (by omega)
   injection e2 with e2
   subst e2
   rw [add_mk]
   exact hc' j u hu
  obtain ⟨v',w',hrun,r1,r2⟩:=run_append_arg_grows (P:=P) w t o.type e i z 3 bytes h1 h2 h3 h4 h5 h6 (by omega) b R.length R.length (rcs R) (rcs_len R) hold ad R2.length cx (rcs R2) (rcs_len R2) hc (by omega) b1 b2
  unfold Oper.wp
  simp [execOp,hop,resolve,invoke,builtin,hs,hx,hrun,Result.andThen]
  exact h _ _ (hown v' w' r1) r2
 | none=>
  have hR:=h0 rfl
  subst hR
  obtain ⟨v',w',hrun,r1,r2,_⟩:=run_append_own (P:=P) w w.heap.size t o.type e i z 3 bytes h1 h2 h3 h4 h5 h6 (by omega) (.slice none 0 0) 0 [] (World.ownsRow_nil w _ e 3) ad R2.length cx (rcs R2) (rcs_len R2) hc (rcs_one R2) b1 b2 (Nat.le_refl _)
  unfold Oper.wp
  simp at hs
  simp [execOp,hop,resolve,invoke,builtin,hs,hx,hrun,Result.andThen]
  exact h _ _ (hown v' w' (by simpa [rcs] using r1)) r2
theorem rn_two (w:World) (a b:Rn) (t:TypeId):∀ j u,(rcs [a,b])[j]? = some u→(w.alloc (.cells #[.int .i64 a.n,.int .i64 a.lo,.int .i64 a.hi,.int .i64 b.n,.int .i64 b.lo,.int .i64 b.hi] t)).cell? ((⟨w.heap.size,0,none⟩:Addr).add j)=some u:=fun j u hu=>by
 rw [add_mk,Nat.zero_add,World.cell?_alloc_new]
 simpa [rcs,Rn.l] using hu
theorem below_none {W W' : World} (h:W.grownBy W' none):Below W.heap.size W W':=(Below.refl _ _).grown h (Nat.le_refl _) (fun k e=>by cases e)
noncomputable def heS (S:Sh) (H:Hn) (now ep:Int) (b:Bool):Int:=if exS S (b&&(wi now 0 1073741824&&wi ep 0 65536))≠0 then exS S (b&&(wi now 0 1073741824&&wi ep 0 65536)) else if hoF S H now ep=true then 0 else 5
set_option maxHeartbeats 8000000 in
set_option maxRecDepth 20000 in
theorem sherr_any (S:Sh) (D:Sx) (H:Hn) (now ep:Int) (A:Option Addr) (R:List Rn) (w:World) (hs:SR w w.heap.size S D) (hn:Nl w w.heap.size (.slice A R.length R.length) R) (h0:A=none→R=[]) (h100:R.length≤100) :
  Calls Tryz.prog 50 #[sv S D,H.v,.int .i64 now,.int .i64 ep,.slice A R.length R.length] w (VlT w (heS S H now ep (R.all Rn.ok))):=by
 obtain ⟨i0,hi0,hz0⟩:=Option.map_eq_some_iff.1 info_rn
 simp only [Prod.mk.injEq] at hz0
 have HI:=Lh hi0
 have HZ:=Lh hz0
 have H0:=Lh ((SAt.start 33 hs).alloc (.cells #[.int .i64 H.id,.int .i64 H.gn,.int .i64 H.rt,.int .i64 H.ht] 40))
 have Q0:=Lh (H4.start (w.alloc (.cells #[.bool S.lv,.int .i64 S.lo,.int .i64 S.hi,.slice D.A S.cs.length D.c,.int .i64 S.hd,.int .i64 S.sz,.slice D.A2 S.l.length D.c2,.slice D.A3 S.h.length D.c3] 33)) H 40)
 have HV:=Lh (fun A c p W (k:SAt w p S D W) (hn:Nl W W.heap.size (.slice A (R.length+2) c) (R++[⟨now,0,1073741824⟩,⟨ep,0,65536⟩]))=>sexam_any S D A (R.length+2) c (R++[⟨now,0,1073741824⟩,⟨ep,0,65536⟩]) W k.sr hn)
 have HE:(R++[⟨now,0,1073741824⟩,⟨ep,0,65536⟩]:List Rn).all Rn.ok=(R.all Rn.ok&&(wi now 0 1073741824&&wi ep 0 65536)):=by simp [Rn.ok]
 rw [HE] at HV
 clear HE
 have HNL:=Lh hn
 have HA0:=Lh h0
 have HT:=Lh (fun W=>atime_any now W)
 have HP:=Lh (fun W=>aepoch_any ep W)
 have HHO:=Lh (fun p W (k:SAt w p S D W)=>sholds_any S D H now ep W k.sr)
 have HDD:Hid (heS S H now ep (R.all Rn.ok)=if exS S (R.all Rn.ok&&(wi now 0 1073741824&&wi ep 0 65536))≠0 then exS S (R.all Rn.ok&&(wi now 0 1073741824&&wi ep 0 65536)) else if hoF S H now ep=true then 0 else 5):=Lh rfl
 have H100:=Lh h100
 clear hs hn h0 h100 hi0 hz0
 generalize exS S (R.all Rn.ok&&(wi now 0 1073741824&&wi ep 0 65536))=z at*
 generalize hoF S H now ep=ho at*
 generalize heS S H now ep (R.all Rn.ok)=x at*
 go_enter Tryz.func50,Tryz.ntmps50
 obtain ⟨p,hp⟩:∃ p,p=w.heap.size:=⟨_,rfl⟩
 obtain ⟨q,hq⟩:∃ q,q=w.heap.size+1:=⟨_,rfl⟩
 have e1:(w.alloc (.cells #[.bool S.lv,.int .i64 S.lo,.int .i64 S.hi,.slice D.A S.cs.length D.c,.int .i64 S.hd,.int .i64 S.sz,.slice D.A2 S.l.length D.c2,.slice D.A3 S.h.length D.c3] 33)).heap.size=q:=by rw [hq];simp
 rw [e1] at Q0
 rw [←hp] at H0
 clear e1
 go_upto_region 1 with (fail)
 rw [←hq,←hp]
 clear hp hq
 generalize ((w.alloc (.cells #[.bool S.lv,.int .i64 S.lo,.int .i64 S.hi,.slice D.A S.cs.length D.c,.int .i64 S.hd,.int .i64 S.sz,.slice D.A2 S.l.length D.c2,.slice D.A3 S.h.length D.c3] 33)).alloc (.cells #[.int .i64 H.id,.int .i64 H.gn,.int .i64 H.rt,.int .i64 H.ht] 40))=w1 at*
 have HD:=Lh H0.out.drew
 have Q1:=Lh (Q0.out.up ((Below.refl _ _).drew))
 have HT0:=Lh (show K8 p S D w1.drew from HD.out.k8)
 go_region_held3 (fun W=>K8 p S D W)
  (first | with_reducible exact HT0.out | with_reducible exact HT1.out | with_reducible exact HT2.out | with_reducible exact HT3.out | with_reducible exact HT4.out | with_reducible exact HT5.out)
  (first
  | (go_at_call 41;(with_reducible refine (HT.out _).mono ?_);rintro e w3 ⟨rfl,hb⟩;have HA1:=Lh (HD.out.below hb);have Q2:=Lh (Q1.out.up hb);have HT1:=Lh HA1.out.k8;clear hb)
  | (go_at_call 43;(with_reducible refine (HP.out _).mono ?_);rintro e w4 ⟨rfl,hb⟩;have HA2:=Lh (HA1.out.below hb);have Q3:=Lh (Q2.out.up hb);have HT2:=Lh HA2.out.k8;have HA3:=Lh (HA2.out.alloc (.cells #[.int .i64 now,.int .i64 0,.int .i64 1073741824,.int .i64 ep,.int .i64 0,.int .i64 65536] 82));have Q4:=Lh (Q3.out.up ((Below.refl _ _).alloc (Nat.le_refl _) (.cells #[.int .i64 now,.int .i64 0,.int .i64 1073741824,.int .i64 ep,.int .i64 0,.int .i64 65536] 82)));have HT3:=Lh HA3.out.k8;have HN3:=Lh (HNL.out.below HA3.out.bel);have HCX:=Lh (rn_two w4 ⟨now,0,1073741824⟩ ⟨ep,0,65536⟩ 82);clear hb)
  | (go_at_call 40;(with_reducible refine (HV.out _ _ _ _ HA5.out HN5.out).mono ?_);rintro e w6 ⟨rfl,hb⟩;have HA6:=Lh (HA5.out.below hb);have Q6:=Lh (Q5.out.up hb);have HT5:=Lh HA6.out.k8;clear hb)
  | ((refine step_append_nl _ (by rfl) _ _ _ (by rfl) 82 i0 _ 24 Tryz.underlying117 HI.out HZ.out.1 HZ.out.2.1 HZ.out.2.2 rfl w.heap.size A R [⟨now,0,1073741824⟩,⟨ep,0,65536⟩] (by rfl) HN3.out HA0.out ⟨w4.heap.size,0,none⟩ 2 (by rfl) HCX.out (by simp) (by have:=H100.out;unfold maxLen;simp;omega) (by have:=H100.out;simp;omega) ?_);intro v5 w5 hnl hgr;have HA5:=Lh (HA3.out.grown hgr (fun q e=>by cases e));have Q5:=Lh (Q4.out.up (below_none hgr));have HT4:=Lh HA5.out.k8;obtain ⟨A5,c5,hv5,_,_,_⟩:=id hnl;subst hv5;have HN5:=Lh (show Nl w5 w5.heap.size (.slice A5 (R.length+2) c5) (R++[⟨now,0,1073741824⟩,⟨ep,0,65536⟩]) by simpa using hnl);clear hnl hgr))
 have HD6:=Lh (show x=if z≠0 then z else if ho=true then 0 else 5 from HDD.out)
 clear HD HT0 HT1 HT2 HT3 HT4 HT5 HA1 HA2 HA3 HA5 HNL HT HP HV H0 Q0 Q1 Q2 Q3 Q4 Q5 HDD H100
 by_cases hz:z=0
 ·subst hz
  obtain ⟨t0,t1,t2,t3,t4,t5,t6,t7,tl⟩:=HA6.out.s8.facts
  obtain ⟨q0,q1,q2,q3,ql⟩:=Q6.out
  go_wp2_with fail
  clear t0 t1 t2 t3 t4 t5 t6 t7 tl q0 q1 q2 q3 ql
  refine (HHO.out _ _ HA6.out).mono ?_
  rintro e w7 ⟨rfl,hb⟩
  have HA7:=Lh (HA6.out.below hb)
  clear hb
  cases ho
  ·obtain rfl:x=5:=by rw [HD6.out];rfl
   have HF:=Lh (show VlT w 5 (.returned (.int .i64 5)) w7 from ⟨rfl,HA7.out.bel⟩)
   go_wp2
   exact bodyPost_ret (v:=.int .i64 5) (by simp only [results,Tryz.results50];go_simp <;> rfl) rfl HF.out
  ·obtain rfl:x=0:=by rw [HD6.out];rfl
   have HF:=Lh (show VlT w 0 (.returned (.int .i64 0)) w7 from ⟨rfl,HA7.out.bel⟩)
   go_wp2
   exact bodyPost_ret (v:=.int .i64 0) (by simp only [results,Tryz.results50];go_simp <;> rfl) rfl HF.out
 ·have hne:(z != 0)=true:=bne_iff_ne.2 hz
  obtain rfl:x=z:=by rw [HD6.out,if_pos hz]
  clear hz
  have HF:=Lh (show VlT w x (.returned (.int .i64 x)) w6 from ⟨rfl,HA6.out.bel⟩)
  go_wp2
  exact bodyPost_ret (v:=.int .i64 x) (by simp only [results,Tryz.results50];go_simp <;> rfl) rfl HF.out
noncomputable def gbB (S:Sh) (id:Int):Sh:=⟨S.lv,S.lo,S.hi,pbC S.cs S.hd S.sz (rlM S.l S.h id),ifE (puE S.cs S.hd S.sz (rlM S.l S.h id)) S.hd,ifE (puE S.cs S.hd S.sz (rlM S.l S.h id)) (S.sz+1),rlL S.l S.h id,rlH S.l S.h id⟩
noncomputable def nkC (cs:List Msg) (hd sz:Int) (M:Msg) (lim:Int):List Msg:=if spF M lim=true then pbC cs hd sz M else pfC cs hd sz M
noncomputable def nkH (cs:List Msg) (hd sz:Int) (M:Msg) (lim:Int):Int:=if spF M lim=true then ifE (puE cs hd sz M) hd else pfH cs hd sz M
noncomputable def gbN (S:Sh) (id lim:Int):Sh:=⟨S.lv,S.lo,S.hi,nkC S.cs S.hd S.sz (rlM S.l S.h id) lim,nkH S.cs S.hd S.sz (rlM S.l S.h id) lim,ifE (puE S.cs S.hd S.sz (rlM S.l S.h id)) (S.sz+1),rlL S.l S.h id,rlH S.l S.h id⟩
set_option maxHeartbeats 4000000 in
set_option maxRecDepth 20000 in
theorem nack1_any (A:Option Addr) (n c:Nat) (cs:List Msg) (hd sz:Int) (M:Msg) (b:Nat) (lim:Int) (w:World) (hv:Ls w w.heap.size (.slice A n c) cs) (hc:w.cell? ⟨b,0,none⟩=some (.int .i64 lim)) (hb:b<w.heap.size) :
  Calls Tryz.prog 52 #[.agg #[.slice A n c,.int .i64 hd,.int .i64 sz],M.v,.pointer (some ⟨b,0,none⟩)] w (RP w (nkC cs hd sz M lim) (nkH cs hd sz M lim) (ifE (puE cs hd sz M) (sz+1)) (puE cs hd sz M)):=by
 obtain ⟨rfl,hm1,hm2⟩:=hv.len
 have HV:=Lh hv
 have HR0:=Lh (((RgAt.start w A cs.length c hd sz 27).alloc (.cells #[.int .i64 M.id,.int .i64 M.rt,.int .i64 M.ep,.int .i64 M.ct,.int .i64 M.gn,.int .i64 M.st,.string M.bd] 56)).alloc (.cells #[.slice none 0 0,.int .i64 0,.int .i64 0] 27))
 have HM0:=Lh (show MBx (((w.alloc (.cells #[.slice A cs.length c,.int .i64 hd,.int .i64 sz] 27)).alloc (.cells #[.int .i64 M.id,.int .i64 M.rt,.int .i64 M.ep,.int .i64 M.ct,.int .i64 M.gn,.int .i64 M.st,.string M.bd] 56)).alloc (.cells #[.slice none 0 0,.int .i64 0,.int .i64 0] 27)) (w.heap.size+1) M from by
  have h:=MBx.start (w.alloc (.cells #[.slice A cs.length c,.int .i64 hd,.int .i64 sz] 27)) M 56
  rw [show (w.alloc (.cells #[.slice A cs.length c,.int .i64 hd,.int .i64 sz] 27)).heap.size=w.heap.size+1 by simp] at h
  exact h.up ((Below.refl _ _).alloc (Nat.le_refl _) _))
 have HZ0:=Lh (show RB (((w.alloc (.cells #[.slice A cs.length c,.int .i64 hd,.int .i64 sz] 27)).alloc (.cells #[.int .i64 M.id,.int .i64 M.rt,.int .i64 M.ep,.int .i64 M.ct,.int .i64 M.gn,.int .i64 M.st,.string M.bd] 56)).alloc (.cells #[.slice none 0 0,.int .i64 0,.int .i64 0] 27)) (w.heap.size+1+1) none 0 0 0 0 from by
  have h:=RB.fresh ((w.alloc (.cells #[.slice A cs.length c,.int .i64 hd,.int .i64 sz] 27)).alloc (.cells #[.int .i64 M.id,.int .i64 M.rt,.int .i64 M.ep,.int .i64 M.ct,.int .i64 M.gn,.int .i64 M.st,.string M.bd] 56)) none 0 0 0 0 27
  rw [show ((w.alloc (.cells #[.slice A cs.length c,.int .i64 hd,.int .i64 sz] 27)).alloc (.cells #[.int .i64 M.id,.int .i64 M.rt,.int .i64 M.ep,.int .i64 M.ct,.int .i64 M.gn,.int .i64 M.st,.string M.bd] 56)).heap.size=w.heap.size+1+1 by simp] at h
  exact h)
 have HC:=Lh ((HR0.out.bel.cell (p:=⟨b,0,none⟩) hb).trans hc)
 have HBL:=Lh (show b<(((w.alloc (.cells #[.slice A cs.length c,.int .i64 hd,.int .i64 sz] 27)).alloc (.cells #[.int .i64 M.id,.int .i64 M.rt,.int .i64 M.ep,.int .i64 M.ct,.int .i64 M.gn,.int .i64 M.st,.string M.bd] 56)).alloc (.cells #[.slice none 0 0,.int .i64 0,.int .i64 0] 27)).heap.size by simp;omega)
 have HSP:=Lh (fun W=>spent_any M lim W)
 have HPB:=Lh (fun W (h:Ls W W.heap.size (.slice A cs.length c) cs)=>pback_any A cs.length c cs hd sz M W h)
 have HPF:=Lh (fun W (h:Ls W W.heap.size (.slice A cs.length c) cs)=>pfront_any A cs.length c cs hd sz M W h)
 clear hv hc hb hm1 hm2
 generalize ifE (puE cs hd sz M) (sz+1)=zz at*
 generalize hsp:spF M lim=sp at*
 have HSPF:=Lh hsp
 clear hsp
 obtain ⟨pE,hpE⟩:∃ pE,pE=puE cs hd sz M:=⟨_,rfl⟩
 have HPE:=Lh hpE
 rw [←hpE]
 have HPE2:Hid (puE cs hd sz M=pE):=Lh hpE.symm
 rw [←hpE] at HPF
 clear hpE
 go_enter Tryz.func52,Tryz.ntmps52
 obtain ⟨x0,x1,x2,xl⟩:=HR0.out.facts
 obtain ⟨v0,v1,v2,v3,v4,v5,v6⟩:=HM0.out.m7
 have vl:=HM0.out.lt
 have c0:=HC.out
 have cl:=HBL.out
 go_wp2_with fail
 obtain ⟨p,hp⟩:∃ p,p=w.heap.size:=⟨_,rfl⟩
 obtain ⟨q,hq⟩:∃ q,q=w.heap.size+1:=⟨_,rfl⟩
 obtain ⟨r,hr⟩:∃ r,r=w.heap.size+1+1:=⟨_,rfl⟩
 have HRR:=Lh (show w.heap.size≤r by omega)
 clear x0 x1 x2 xl v0 v1 v2 v3 v4 v5 v6 vl c0 cl
 rw [←hr,←hq,←hp]
 rw [←hp] at HR0
 rw [←hq] at HM0
 rw [←hr] at HZ0
 clear hp hq hr HC HBL
 generalize (((w.alloc (.cells #[.slice A cs.length c,.int .i64 hd,.int .i64 sz] 27)).alloc (.cells #[.int .i64 M.id,.int .i64 M.rt,.int .i64 M.ep,.int .i64 M.ct,.int .i64 M.gn,.int .i64 M.st,.string M.bd] 56)).alloc (.cells #[.slice none 0 0,.int .i64 0,.int .i64 0] 27))=w3 at*
 refine (HSP.out _).mono ?_
 rintro e w4 ⟨rfl,hb⟩
 have HR1:=Lh (HR0.out.below hb)
 have HM1:=Lh (HM0.out.up hb)
 have HZ1:=Lh (HZ0.out.below hb HZ0.out.lt)
 clear hb
 obtain ⟨x0,x1,x2,xl⟩:=HR1.out.facts
 obtain ⟨v0,v1,v2,v3,v4,v5,v6⟩:=HM1.out.m7
 have vl:=HM1.out.lt
 cases sp with
 | true=>
  obtain ⟨xs,hxs⟩:∃ xs,xs=pbC cs hd sz M:=⟨_,rfl⟩
  obtain ⟨xh,hxh⟩:∃ xh,xh=ifE (puE cs hd sz M) hd:=⟨_,rfl⟩
  have HNC:=Lh (show nkC cs hd sz M lim=xs by unfold nkC;rw [if_pos HSPF.out,hxs])
  have HNH:=Lh (show nkH cs hd sz M lim=xh by unfold nkH;rw [if_pos HSPF.out,hxh])
  rw [←hxs,←hxh,HPE2.out] at HPB
  clear hxs hxh
  go_wp2_with fail
  clear x0 x1 x2 xl v0 v1 v2 v3 v4 v5 v6 vl
  refine (HPB.out _ ((HV.out.below HR1.out.bel).more HR1.out.bel.size)).mono ?_
  rintro e w5 ⟨A5,c5,rfl,hn,hl,hb⟩
  have HR2:=Lh (HR1.out.below hb)
  have HZ2:=Lh (HZ1.out.below hb HZ1.out.lt)
  have HF:=Lh (show RP w (nkC cs hd sz M lim) (nkH cs hd sz M lim) zz pE (.returned (.tuple #[.agg #[.slice A5 xs.length c5,.int .i64 xh,.int .i64 zz],.int .i64 pE])) (((w5.setCell ⟨r,0,none⟩ (.slice A5 xs.length c5)).setCell ⟨r,1,none⟩ (.int .i64 xh)).setCell ⟨r,2,none⟩ (.int .i64 zz)) from by
   rw [HNC.out,HNH.out]
   exact ⟨A5,c5,rfl,nw_low hn HR1.out.bel.size,(hl.off3 hn HZ1.out.lt _ _ _).more (by simp),bst (bst (bst HR2.out.bel (p:=⟨r,0,none⟩) HRR.out _) (p:=⟨r,1,none⟩) HRR.out _) (p:=⟨r,2,none⟩) HRR.out _⟩)
  clear hn hl hb
  obtain ⟨r0,r1,r2,r3,r4,r5,rl⟩:=HZ2.out.facts
  go_wp2
  exact bodyPost_ret (v:=.tuple #[.agg #[.slice A5 xs.length c5,.int .i64 xh,.int .i64 zz],.int .i64 pE]) (by simp only [results,Tryz.results52];go_simp <;> rfl) rfl HF.out
 | false=>
  have hsp' : ¬spF M lim=true:=by rw [HSPF.out];decide
  obtain ⟨xs,hxs⟩:∃ xs,xs=pfC cs hd sz M:=⟨_,rfl⟩
  obtain ⟨xh,hxh⟩:∃ xh,xh=pfH cs hd sz M:=⟨_,rfl⟩
  have HNC:=Lh (show nkC cs hd sz M lim=xs by unfold nkC;rw [if_neg hsp',hxs])
  have HNH:=Lh (show nkH cs hd sz M lim=xh by unfold nkH;rw [if_neg hsp',hxh])
  rw [←hxs,←hxh] at HPF
  clear hxs hxh hsp'
  go_wp2_with fail
  clear x0 x1 x2 xl v0 v1 v2 v3 v4 v5 v6 vl
  refine (HPF.out _ ((HV.out.below HR1.out.bel).more HR1.out.bel.size)).mono ?_
  rintro e w5 ⟨A5,c5,rfl,hn,hl,hb⟩
  have HR2:=Lh (HR1.out.below hb)
  have HZ2:=Lh (HZ1.out.below hb HZ1.out.lt)
  have HF:=Lh (show RP w (nkC cs hd sz M lim) (nkH cs hd sz M lim) zz pE (.returned (.tuple #[.agg #[.slice A5 xs.length c5,.int .i64 xh,.int .i64 zz],.int .i64 pE])) (((w5.setCell ⟨r,0,none⟩ (.slice A5 xs.length c5)).setCell ⟨r,1,none⟩ (.int .i64 xh)).setCell ⟨r,2,none⟩ (.int .i64 zz)) from by
   rw [HNC.out,HNH.out]
   exact ⟨A5,c5,rfl,nw_low hn HR1.out.bel.size,(hl.off3 hn HZ1.out.lt _ _ _).more (by simp),bst (bst (bst HR2.out.bel (p:=⟨r,0,none⟩) HRR.out _) (p:=⟨r,1,none⟩) HRR.out _) (p:=⟨r,2,none⟩) HRR.out _⟩)
  clear hn hl hb
  obtain ⟨r0,r1,r2,r3,r4,r5,rl⟩:=HZ2.out.facts
  go_wp2
  exact bodyPost_ret (v:=.tuple #[.agg #[.slice A5 xs.length c5,.int .i64 xh,.int .i64 zz],.int .i64 pE]) (by simp only [results,Tryz.results52];go_simp <;> rfl) rfl HF.out
set_option maxHeartbeats 8000000 in
set_option maxRecDepth 20000 in
theorem giveback_any (S:Sh) (D:Sx) (id:Int) (w:World) (hs:SR w w.heap.size S D) :
  Calls Tryz.prog 51 #[sv S D,.int .i64 id,.func (.func 54) #[] #[]] w (SV w (gbB S id)):=by
 have H0:=Lh ((SAt.start 33 hs).alloc (.cells #[.bool false,.int .i64 0,.int .i64 0,.slice none 0 0,.int .i64 0,.int .i64 0,.slice none 0 0,.slice none 0 0] 33))
 have R0:=Lh (SB8.zero (w.alloc (.cells #[.bool S.lv,.int .i64 S.lo,.int .i64 S.hi,.slice D.A S.cs.length D.c,.int .i64 S.hd,.int .i64 S.sz,.slice D.A2 S.l.length D.c2,.slice D.A3 S.h.length D.c3] 33)) 33)
 have HRL:=Lh (fun p W (q:SAt w p S D W)=>lrelease_any D.A2 S.l.length D.c2 S.l D.A3 S.h.length D.c3 S.h id W q.sr.el q.sr.dl)
 have HPB:=Lh (fun p (l:List Le) (hh:List Du) D W (q:SAt w p ⟨S.lv,S.lo,S.hi,S.cs,S.hd,S.sz,l,hh⟩ D W)=>pback_any D.A S.cs.length D.c S.cs S.hd S.sz (rlM S.l S.h id) W q.sr.ls)
 obtain ⟨T,hT⟩:∃ T,T=(gbB S id):=⟨_,rfl⟩
 have HTT:=Lh (show T=⟨S.lv,S.lo,S.hi,pbC S.cs S.hd S.sz (rlM S.l S.h id),ifE (puE S.cs S.hd S.sz (rlM S.l S.h id)) S.hd,ifE (puE S.cs S.hd S.sz (rlM S.l S.h id)) (S.sz+1),rlL S.l S.h id,rlH S.l S.h id⟩ from hT)
 rw [←hT]
 clear hT hs
 generalize rlL S.l S.h id=gl at*
 generalize rlH S.l S.h id=gh at*
 generalize rlE S.l S.h id=rE at*
 generalize rlM S.l S.h id=M at*
 generalize pbC S.cs S.hd S.sz M=cs at*
 generalize ifE (puE S.cs S.hd S.sz M) S.hd=hd at*
 generalize ifE (puE S.cs S.hd S.sz M) (S.sz+1)=sz at*
 generalize puE S.cs S.hd S.sz M=pE at*
 go_enter Tryz.func51,Tryz.ntmps51
 obtain ⟨t0,t1,t2,t3,t4,t5,t6,t7,tl⟩:=H0.out.s8.facts
 go_wp2_with fail
 clear t0 t1 t2 t3 t4 t5 t6 t7 tl
 obtain ⟨p,hp⟩:∃ p,p=w.heap.size:=⟨_,rfl⟩
 obtain ⟨r,hr⟩:∃ r,r=w.heap.size+1:=⟨_,rfl⟩
 have e1:(w.alloc (.cells #[.bool S.lv,.int .i64 S.lo,.int .i64 S.hi,.slice D.A S.cs.length D.c,.int .i64 S.hd,.int .i64 S.sz,.slice D.A2 S.l.length D.c2,.slice D.A3 S.h.length D.c3] 33)).heap.size=r:=by rw [hr];simp
 rw [e1] at R0
 have HPR:=Lh (show ¬p=r∧¬r=p∧w.heap.size≤p∧p<r by omega)
 rw [←hr,←hp]
 rw [←hp] at H0
 clear e1 hp hr
 generalize ((w.alloc (.cells #[.bool S.lv,.int .i64 S.lo,.int .i64 S.hi,.slice D.A S.cs.length D.c,.int .i64 S.hd,.int .i64 S.sz,.slice D.A2 S.l.length D.c2,.slice D.A3 S.h.length D.c3] 33)).alloc (.cells #[.bool false,.int .i64 0,.int .i64 0,.slice none 0 0,.int .i64 0,.int .i64 0,.slice none 0 0,.slice none 0 0] 33))=w1 at*
 refine (HRL.out _ _ H0.out).mono ?_
 rintro e w2 ⟨A3,c3,A4,c4,rfl,n3,n4,h3,h4,hb⟩
 have H1:=Lh (H0.out.below hb)
 have R1:=Lh (R0.out.up hb)
 have H2:=Lh (H1.out.setTab h3 h4 (offb_nw n3 H0.out.lt) (offb_nw n4 H0.out.lt))
 have R2:=Lh ((R1.out.other (q:=⟨p,6,none⟩) HPR.out.1 (.slice A3 gl.length c3)).other (q:=⟨p,7,none⟩) HPR.out.1 (.slice A4 gh.length c4))
 have H3:=Lh (show SAt w p ⟨S.lv,S.lo,S.hi,S.cs,S.hd,S.sz,gl,gh⟩ ⟨D.A,D.c,A3,c3,A4,c4⟩ ((((w2.setCell ⟨p,6,none⟩ (.slice A3 gl.length c3)).setCell ⟨p,7,none⟩ (.slice A4 gh.length c4)).alloc (.cells #[.slice A3 gl.length c3,.slice A4 gh.length c4] 31)).alloc (.cells #[.int .i64 M.id,.int .i64 M.rt,.int .i64 M.ep,.int .i64 M.ct,.int .i64 M.gn,.int .i64 M.st,.string M.bd] 56)) from (H2.out.alloc _).alloc _)
 have R3:=Lh (show SB8 ((((w2.setCell ⟨p,6,none⟩ (.slice A3 gl.length c3)).setCell ⟨p,7,none⟩ (.slice A4 gh.length c4)).alloc (.cells #[.slice A3 gl.length c3,.slice A4 gh.length c4] 31)).alloc (.cells #[.int .i64 M.id,.int .i64 M.rt,.int .i64 M.ep,.int .i64 M.ct,.int .i64 M.gn,.int .i64 M.st,.string M.bd] 56)) r zS zX from (R2.out.up ((Below.refl _ _).alloc (Nat.le_refl _) _)).up ((Below.refl _ _).alloc (Nat.le_refl _) _))
 have N3:=Lh (show Nw (r+1) A3∧Nw (r+1) A4 from ⟨nw_low n3 R0.out.lt,nw_low n4 R0.out.lt⟩)
 have HPW:=Lh (show p<w2.heap.size∧r<w2.heap.size from ⟨H1.out.lt,R1.out.lt⟩)
 clear n3 n4 h3 h4 hb
 obtain ⟨⟨t0,t1,t2,t3,t4,t5,t6,t7,tl⟩,⟨f0,f1,f2,f3,f4,f5,f6,f7⟩⟩:=H1.out.s8.all
 go_wp2_with fail
 clear t0 t1 t2 t3 t4 t5 t6 t7 tl f0 f1 f2 f3 f4 f5 f6 f7
 generalize ((((w2.setCell ⟨p,6,none⟩ (.slice A3 gl.length c3)).setCell ⟨p,7,none⟩ (.slice A4 gh.length c4)).alloc (.cells #[.slice A3 gl.length c3,.slice A4 gh.length c4] 31)).alloc (.cells #[.int .i64 M.id,.int .i64 M.rt,.int .i64 M.ep,.int .i64 M.ct,.int .i64 M.gn,.int .i64 M.st,.string M.bd] 56))=w4 at*
 refine (HPB.out _ gl gh _ _ H3.out).mono ?_
 rintro e w5 ⟨A6,c6,rfl,hn6,hl6,hb⟩
 have H5:=Lh (H3.out.below hb)
 have R5:=Lh (R3.out.up hb)
 have H6:=Lh (H5.out.setRing hd sz hl6 (offb_nw hn6 H3.out.lt))
 have N6:=Lh (show Nw (r+1) A6 from nw_low hn6 R3.out.lt)
 clear hn6 hl6 hb
 have HF:=Lh (show SV w T (.returned (.agg #[.bool S.lv,.int .i64 S.lo,.int .i64 S.hi,.slice A6 cs.length c6,.int .i64 hd,.int .i64 sz,.slice A3 gl.length c3,.slice A4 gh.length c4])) (((((((((((w5.setCell ⟨p,3,none⟩ (.slice A6 cs.length c6)).setCell ⟨p,4,none⟩ (.int .i64 hd)).setCell ⟨p,5,none⟩ (.int .i64 sz)).setCell ⟨r,0,none⟩ (.bool S.lv)).setCell ⟨r,1,none⟩ (.int .i64 S.lo)).setCell ⟨r,2,none⟩ (.int .i64 S.hi)).setCell ⟨r,3,none⟩ (.slice A6 cs.length c6)).setCell ⟨r,4,none⟩ (.int .i64 hd)).setCell ⟨r,5,none⟩ (.int .i64 sz)).setCell ⟨r,6,none⟩ (.slice A3 gl.length c3)).setCell ⟨r,7,none⟩ (.slice A4 gh.length c4)) from by
  rw [HTT.out]
  have hne:=HPR.out
  exact ⟨⟨A6,c6,A3,c3,A4,c4⟩,rfl,⟨nw_low N6.out (by omega),nw_low N3.out.1 (by omega),nw_low N3.out.2 (by omega)⟩,SR.sets (S:=⟨S.lv,S.lo,S.hi,cs,hd,sz,gl,gh⟩) (D:=⟨A6,c6,A3,c3,A4,c4⟩) ⟨offb_nw N6.out (Nat.lt_succ_self r),offb_nw N3.out.1 (Nat.lt_succ_self r),offb_nw N3.out.2 (Nat.lt_succ_self r)⟩ (Sh.l8 ⟨S.lv,S.lo,S.hi,cs,hd,sz,gl,gh⟩ ⟨A6,c6,A3,c3,A4,c4⟩) 0 _ H6.out.sr,set8s_below (show w.heap.size≤r by omega) H6.out.bel ⟨S.lv,S.lo,S.hi,cs,hd,sz,gl,gh⟩ ⟨A6,c6,A3,c3,A4,c4⟩⟩)
 obtain ⟨⟨t0,t1,t2,t3,t4,t5,t6,t7,tl⟩,⟨f0,f1,f2,f3,f4,f5,f6,f7⟩⟩:=H5.out.s8.all
 obtain ⟨⟨r0,r1,r2,r3,r4,r5,r6,r7,rl⟩,⟨g0,g1,g2,g3,g4,g5,g6,g7⟩⟩:=R5.out.all
 obtain ⟨hpr,hrp,-,-⟩:=HPR.out
 go_wp2
 exact bodyPost_ret (v:=.agg #[.bool S.lv,.int .i64 S.lo,.int .i64 S.hi,.slice A6 cs.length c6,.int .i64 hd,.int .i64 sz,.slice A3 gl.length c3,.slice A4 gh.length c4]) (by simp only [results,Tryz.results51];go_simp <;> rfl) rfl HF.out
set_option maxHeartbeats 8000000 in
set_option maxRecDepth 20000 in
theorem givenack_any (S:Sh) (D:Sx) (id:Int) (b:Nat) (lim:Int) (w:World) (hs:SR w w.heap.size S D) (hc:w.cell? ⟨b,0,none⟩=some (.int .i64 lim)) (hb:b<w.heap.size) :
  Calls Tryz.prog 51 #[sv S D,.int .i64 id,.func (.func 52) #[] #[.pointer (some ⟨b,0,none⟩)]] w (SV w (gbN S id lim)):=by
 have H0:=Lh ((SAt.start 33 hs).alloc (.cells #[.bool false,.int .i64 0,.int .i64 0,.slice none 0 0,.int .i64 0,.int .i64 0,.slice none 0 0,.slice none 0 0] 33))
 have R0:=Lh (SB8.zero (w.alloc (.cells #[.bool S.lv,.int .i64 S.lo,.int .i64 S.hi,.slice D.A S.cs.length D.c,.int .i64 S.hd,.int .i64 S.sz,.slice D.A2 S.l.length D.c2,.slice D.A3 S.h.length D.c3] 33)) 33)
 have HRL:=Lh (fun p W (q:SAt w p S D W)=>lrelease_any D.A2 S.l.length D.c2 S.l D.A3 S.h.length D.c3 S.h id W q.sr.el q.sr.dl)
 have HPB:=Lh (fun p (l:List Le) (hh:List Du) D W (q:SAt w p ⟨S.lv,S.lo,S.hi,S.cs,S.hd,S.sz,l,hh⟩ D W)=>nack1_any D.A S.cs.length D.c S.cs S.hd S.sz (rlM S.l S.h id) b lim W q.sr.ls ((q.bel.cell (p:=⟨b,0,none⟩) hb).trans hc) (Nat.lt_of_lt_of_le hb q.bel.size))
 clear hc hb
 obtain ⟨T,hT⟩:∃ T,T=(gbN S id lim):=⟨_,rfl⟩
 have HTT:=Lh (show T=⟨S.lv,S.lo,S.hi,nkC S.cs S.hd S.sz (rlM S.l S.h id) lim,nkH S.cs S.hd S.sz (rlM S.l S.h id) lim,ifE (puE S.cs S.hd S.sz (rlM S.l S.h id)) (S.sz+1),rlL S.l S.h id,rlH S.l S.h id⟩ from hT)
 rw [←hT]
 clear hT hs
 generalize rlL S.l S.h id=gl at*
 generalize rlH S.l S.h id=gh at*
 generalize rlE S.l S.h id=rE at*
 generalize rlM S.l S.h id=M at*
 generalize nkC S.cs S.hd S.sz M lim=cs at*
 generalize nkH S.cs S.hd S.sz M lim=hd at*
 generalize ifE (puE S.cs S.hd S.sz M) (S.sz+1)=sz at*
 generalize puE S.cs S.hd S.sz M=pE at*
 go_enter Tryz.func51,Tryz.ntmps51
 obtain ⟨t0,t1,t2,t3,t4,t5,t6,t7,tl⟩:=H0.out.s8.facts
 go_wp2_with fail
 clear t0 t1 t2 t3 t4 t5 t6 t7 tl
 obtain ⟨p,hp⟩:∃ p,p=w.heap.size:=⟨_,rfl⟩
 obtain ⟨r,hr⟩:∃ r,r=w.heap.size+1:=⟨_,rfl⟩
 have e1:(w.alloc (.cells #[.bool S.lv,.int .i64 S.lo,.int .i64 S.hi,.slice D.A S.cs.length D.c,.int .i64 S.hd,.int .i64 S.sz,.slice D.A2 S.l.length D.c2,.slice D.A3 S.h.length D.c3] 33)).heap.size=r:=by rw [hr];simp
 rw [e1] at R0
 have HPR:=Lh (show ¬p=r∧¬r=p∧w.heap.size≤p∧p<r by omega)
 rw [←hr,←hp]
 rw [←hp] at H0
 clear e1 hp hr
 generalize ((w.alloc (.cells #[.bool S.lv,.int .i64 S.lo,.int .i64 S.hi,.slice D.A S.cs.length D.c,.int .i64 S.hd,.int .i64 S.sz,.slice D.A2 S.l.length D.c2,.slice D.A3 S.h.length D.c3] 33)).alloc (.cells #[.bool false,.int .i64 0,.int .i64 0,.slice none 0 0,.int .i64 0,.int .i64 0,.slice none 0 0,.slice none 0 0] 33))=w1 at*
 refine (HRL.out _ _ H0.out).mono ?_
 rintro e w2 ⟨A3,c3,A4,c4,rfl,n3,n4,h3,h4,hb⟩
 have H1:=Lh (H0.out.below hb)
 have R1:=Lh (R0.out.up hb)
 have H2:=Lh (H1.out.setTab h3 h4 (offb_nw n3 H0.out.lt) (offb_nw n4 H0.out.lt))
 have R2:=Lh ((R1.out.other (q:=⟨p,6,none⟩) HPR.out.1 (.slice A3 gl.length c3)).other (q:=⟨p,7,none⟩) HPR.out.1 (.slice A4 gh.length c4))
 have H3:=Lh (show SAt w p ⟨S.lv,S.lo,S.hi,S.cs,S.hd,S.sz,gl,gh⟩ ⟨D.A,D.c,A3,c3,A4,c4⟩ ((((w2.setCell ⟨p,6,none⟩ (.slice A3 gl.length c3)).setCell ⟨p,7,none⟩ (.slice A4 gh.length c4)).alloc (.cells #[.slice A3 gl.length c3,.slice A4 gh.length c4] 31)).alloc (.cells #[.int .i64 M.id,.int .i64 M.rt,.int .i64 M.ep,.int .i64 M.ct,.int .i64 M.gn,.int .i64 M.st,.string M.bd] 56)) from (H2.out.alloc _).alloc _)
 have R3:=Lh (show SB8 ((((w2.setCell ⟨p,6,none⟩ (.slice A3 gl.length c3)).setCell ⟨p,7,none⟩ (.slice A4 gh.length c4)).alloc (.cells #[.slice A3 gl.length c3,.slice A4 gh.length c4] 31)).alloc (.cells #[.int .i64 M.id,.int .i64 M.rt,.int .i64 M.ep,.int .i64 M.ct,.int .i64 M.gn,.int .i64 M.st,.string M.bd] 56)) r zS zX from (R2.out.up ((Below.refl _ _).alloc (Nat.le_refl _) _)).up ((Below.refl _ _).alloc (Nat.le_refl _) _))
 have N3:=Lh (show Nw (r+1) A3∧Nw (r+1) A4 from ⟨nw_low n3 R0.out.lt,nw_low n4 R0.out.lt⟩)
 have HPW:=Lh (show p<w2.heap.size∧r<w2.heap.size from ⟨H1.out.lt,R1.out.lt⟩)
 clear n3 n4 h3 h4 hb
 obtain ⟨⟨t0,t1,t2,t3,t4,t5,t6,t7,tl⟩,⟨f0,f1,f2,f3,f4,f5,f6,f7⟩⟩:=H1.out.s8.all
 go_wp2_with fail
 clear t0 t1 t2 t3 t4 t5 t6 t7 tl f0 f1 f2 f3 f4 f5 f6 f7
 generalize ((((w2.setCell ⟨p,6,none⟩ (.slice A3 gl.length c3)).setCell ⟨p,7,none⟩ (.slice A4 gh.length c4)).alloc (.cells #[.slice A3 gl.length c3,.slice A4 gh.length c4] 31)).alloc (.cells #[.int .i64 M.id,.int .i64 M.rt,.int .i64 M.ep,.int .i64 M.ct,.int .i64 M.gn,.int .i64 M.st,.string M.bd] 56))=w4 at*
 refine (HPB.out _ gl gh _ _ H3.out).mono ?_
 rintro e w5 ⟨A6,c6,rfl,hn6,hl6,hb⟩
 have H5:=Lh (H3.out.below hb)
 have R5:=Lh (R3.out.up hb)
 have H6:=Lh (H5.out.setRing hd sz hl6 (offb_nw hn6 H3.out.lt))
 have N6:=Lh (show Nw (r+1) A6 from nw_low hn6 R3.out.lt)
 clear hn6 hl6 hb
 have HF:=Lh (show SV w T (.returned (.agg #[.bool S.lv,.int .i64 S.lo,.int .i64 S.hi,.slice A6 cs.length c6,.int .i64 hd,.int .i64 sz,.slice A3 gl.length c3,.slice A4 gh.length c4])) (((((((((((w5.setCell ⟨p,3,none⟩ (.slice A6 cs.length c6)).setCell ⟨p,4,none⟩ (.int .i64 hd)).setCell ⟨p,5,none⟩ (.int .i64 sz)).setCell ⟨r,0,none⟩ (.bool S.lv)).setCell ⟨r,1,none⟩ (.int .i64 S.lo)).setCell ⟨r,2,none⟩ (.int .i64 S.hi)).setCell ⟨r,3,none⟩ (.slice A6 cs.length c6)).setCell ⟨r,4,none⟩ (.int .i64 hd)).setCell ⟨r,5,none⟩ (.int .i64 sz)).setCell ⟨r,6,none⟩ (.slice A3 gl.length c3)).setCell ⟨r,7,none⟩ (.slice A4 gh.length c4)) from by
  rw [HTT.out]
  have hne:=HPR.out
  exact ⟨⟨A6,c6,A3,c3,A4,c4⟩,rfl,⟨nw_low N6.out (by omega),nw_low N3.out.1 (by omega),nw_low N3.out.2 (by omega)⟩,SR.sets (S:=⟨S.lv,S.lo,S.hi,cs,hd,sz,gl,gh⟩) (D:=⟨A6,c6,A3,c3,A4,c4⟩) ⟨offb_nw N6.out (Nat.lt_succ_self r),offb_nw N3.out.1 (Nat.lt_succ_self r),offb_nw N3.out.2 (Nat.lt_succ_self r)⟩ (Sh.l8 ⟨S.lv,S.lo,S.hi,cs,hd,sz,gl,gh⟩ ⟨A6,c6,A3,c3,A4,c4⟩) 0 _ H6.out.sr,set8s_below (show w.heap.size≤r by omega) H6.out.bel ⟨S.lv,S.lo,S.hi,cs,hd,sz,gl,gh⟩ ⟨A6,c6,A3,c3,A4,c4⟩⟩)
 obtain ⟨⟨t0,t1,t2,t3,t4,t5,t6,t7,tl⟩,⟨f0,f1,f2,f3,f4,f5,f6,f7⟩⟩:=H5.out.s8.all
 obtain ⟨⟨r0,r1,r2,r3,r4,r5,r6,r7,rl⟩,⟨g0,g1,g2,g3,g4,g5,g6,g7⟩⟩:=R5.out.all
 obtain ⟨hpr,hrp,-,-⟩:=HPR.out
 go_wp2
 exact bodyPost_ret (v:=.agg #[.bool S.lv,.int .i64 S.lo,.int .i64 S.hi,.slice A6 cs.length c6,.int .i64 hd,.int .i64 sz,.slice A3 gl.length c3,.slice A4 gh.length c4]) (by simp only [results,Tryz.results51];go_simp <;> rfl) rfl HF.out
noncomputable def akF (S:Sh) (id:Int):Sh:=⟨S.lv,S.lo,S.hi,S.cs,S.hd,S.sz,rlL S.l S.h id,rlH S.l S.h id⟩
def Sh.sz4 (S:Sh):Prop:=1≤S.cs.length∧S.cs.length≤1000∧S.l.length≤1000∧S.h.length≤1000
set_option maxHeartbeats 8000000 in
set_option maxRecDepth 20000 in
theorem sack_any (S:Sh) (D:Sx) (H:Hn) (now ep:Int) (w:World) (hs:SR w w.heap.size S D) (hn:heS S H now ep true=0→S.sz4) :
  Calls Tryz.prog 19 #[sv S D,H.v,.int .i64 now,.int .i64 ep] w (SE w (if heS S H now ep true=0 then akF S H.id else zS) (heS S H now ep true)):=by
 have e1:(w.alloc (.cells #[.bool S.lv,.int .i64 S.lo,.int .i64 S.hi,.slice D.A S.cs.length D.c,.int .i64 S.hd,.int .i64 S.sz,.slice D.A2 S.l.length D.c2,.slice D.A3 S.h.length D.c3] 33)).heap.size=w.heap.size+1:=by simp
 have e2:((w.alloc (.cells #[.bool S.lv,.int .i64 S.lo,.int .i64 S.hi,.slice D.A S.cs.length D.c,.int .i64 S.hd,.int .i64 S.sz,.slice D.A2 S.l.length D.c2,.slice D.A3 S.h.length D.c3] 33)).alloc (.cells #[.int .i64 H.id,.int .i64 H.gn,.int .i64 H.rt,.int .i64 H.ht] 40)).heap.size=w.heap.size+1+1:=by simp
 have H0:=Lh (((SAt.start 33 hs).alloc (.cells #[.int .i64 H.id,.int .i64 H.gn,.int .i64 H.rt,.int .i64 H.ht] 40)).alloc (.cells #[.bool false,.int .i64 0,.int .i64 0,.slice none 0 0,.int .i64 0,.int .i64 0,.slice none 0 0,.slice none 0 0] 33))
 have Q0:=Lh ((H4.start (w.alloc (.cells #[.bool S.lv,.int .i64 S.lo,.int .i64 S.hi,.slice D.A S.cs.length D.c,.int .i64 S.hd,.int .i64 S.sz,.slice D.A2 S.l.length D.c2,.slice D.A3 S.h.length D.c3] 33)) H 40).up ((Below.refl _ _).alloc (Nat.le_refl _) (.cells #[.bool false,.int .i64 0,.int .i64 0,.slice none 0 0,.int .i64 0,.int .i64 0,.slice none 0 0,.slice none 0 0] 33)))
 have R0:=Lh (SB8.zero ((w.alloc (.cells #[.bool S.lv,.int .i64 S.lo,.int .i64 S.hi,.slice D.A S.cs.length D.c,.int .i64 S.hd,.int .i64 S.sz,.slice D.A2 S.l.length D.c2,.slice D.A3 S.h.length D.c3] 33)).alloc (.cells #[.int .i64 H.id,.int .i64 H.gn,.int .i64 H.rt,.int .i64 H.ht] 40)) 33)
 rw [e1] at Q0
 rw [e2] at R0
 have HHE:=Lh (fun p W (k:SAt w p S D W)=>(show Calls Tryz.prog 50 #[sv S D,H.v,.int .i64 now,.int .i64 ep,.slice none 0 0] W (VlT W (heS S H now ep true)) from sherr_any S D H now ep none [] W k.sr Nl.nil (fun _=>rfl) (by simp)))
 obtain ⟨x,hx⟩:∃ x,x=heS S H now ep true:=⟨_,rfl⟩
 rw [←hx] at HHE hn
 rw [←hx]
 have HCL:=Lh (fun (h:x=0) p W (q:SAt w p S D W)=>sclone_any S D W q.sr (hn h).1 (hn h).2.1 (hn h).2.2.1 (hn h).2.2.2)
 have HRL:=Lh (fun p D W (q:SAt w p S D W)=>lrelease_any D.A2 S.l.length D.c2 S.l D.A3 S.h.length D.c3 S.h H.id W q.sr.el q.sr.dl)
 obtain ⟨T,hT⟩:∃ T,T=akF S H.id:=⟨_,rfl⟩
 obtain ⟨U,hU⟩:∃ U,U=if x=0 then akF S H.id else zS:=⟨_,rfl⟩
 have HUU:=Lh (show U=if x=0 then T else zS from by rw [hU,hT])
 have HTT:=Lh (show T=⟨S.lv,S.lo,S.hi,S.cs,S.hd,S.sz,rlL S.l S.h H.id,rlH S.l S.h H.id⟩ from hT)
 rw [←hU]
 clear hU hT hs hn hx
 generalize rlL S.l S.h H.id=gl at*
 generalize rlH S.l S.h H.id=gh at*
 generalize rlE S.l S.h H.id=rE at*
 generalize rlM S.l S.h H.id=M at*
 go_enter Tryz.func19,Tryz.ntmps19
 obtain ⟨t0,t1,t2,t3,t4,t5,t6,t7,tl⟩:=H0.out.s8.facts
 obtain ⟨q0,q1,q2,q3,ql⟩:=Q0.out
 go_wp2_with fail
 clear t0 t1 t2 t3 t4 t5 t6 t7 tl q0 q1 q2 q3 ql
 obtain ⟨p,hp⟩:∃ p,p=w.heap.size:=⟨_,rfl⟩
 obtain ⟨q,hq⟩:∃ q,q=w.heap.size+1:=⟨_,rfl⟩
 obtain ⟨r,hr⟩:∃ r,r=w.heap.size+1+1:=⟨_,rfl⟩
 have HPR:=Lh (show (¬p=r∧¬r=p∧¬p=q∧¬q=p)∧w.heap.size≤p∧p<q∧q<r by omega)
 rw [←hr,←hq,←hp]
 rw [←hr] at R0
 rw [←hq] at Q0
 rw [←hp] at H0
 clear e1 e2 hp hq hr
 generalize (((w.alloc (.cells #[.bool S.lv,.int .i64 S.lo,.int .i64 S.hi,.slice D.A S.cs.length D.c,.int .i64 S.hd,.int .i64 S.sz,.slice D.A2 S.l.length D.c2,.slice D.A3 S.h.length D.c3] 33)).alloc (.cells #[.int .i64 H.id,.int .i64 H.gn,.int .i64 H.rt,.int .i64 H.ht] 40)).alloc (.cells #[.bool false,.int .i64 0,.int .i64 0,.slice none 0 0,.int .i64 0,.int .i64 0,.slice none 0 0,.slice none 0 0] 33))=w1 at*
 refine (HHE.out _ _ H0.out).mono ?_
 rintro e w2 ⟨rfl,hb⟩
 have H1:=Lh (H0.out.below hb)
 have Q1:=Lh (Q0.out.up hb)
 have R1:=Lh (R0.out.up hb)
 clear hb HHE H0 Q0 R0
 by_cases hx:x=0
 ·have HX:=Lh hx
  subst hx
  obtain ⟨t0,t1,t2,t3,t4,t5,t6,t7,tl⟩:=H1.out.s8.facts
  go_wp2_with fail
  clear t0 t1 t2 t3 t4 t5 t6 t7 tl
  refine (HCL.out (by first | trivial | rfl) _ _ H1.out).mono ?_
  rintro e w3 ⟨D2,rfl,hn2,hr2,hb⟩
  have H2:=Lh (H1.out.below hb)
  have H3:=Lh (show SAt w p S D2 ((((((((w3.setCell ⟨p,0,none⟩ (.bool S.lv)).setCell ⟨p,1,none⟩ (.int .i64 S.lo)).setCell ⟨p,2,none⟩ (.int .i64 S.hi)).setCell ⟨p,3,none⟩ (.slice D2.A S.cs.length D2.c)).setCell ⟨p,4,none⟩ (.int .i64 S.hd)).setCell ⟨p,5,none⟩ (.int .i64 S.sz)).setCell ⟨p,6,none⟩ (.slice D2.A2 S.l.length D2.c2)).setCell ⟨p,7,none⟩ (.slice D2.A3 S.h.length D2.c3)) from H2.out.put hr2 (hn2.off H1.out.lt))
  have Q2:=Lh (Q1.out.up hb)
  have R3:=Lh (show SB8 ((((((((w3.setCell ⟨p,0,none⟩ (.bool S.lv)).setCell ⟨p,1,none⟩ (.int .i64 S.lo)).setCell ⟨p,2,none⟩ (.int .i64 S.hi)).setCell ⟨p,3,none⟩ (.slice D2.A S.cs.length D2.c)).setCell ⟨p,4,none⟩ (.int .i64 S.hd)).setCell ⟨p,5,none⟩ (.int .i64 S.sz)).setCell ⟨p,6,none⟩ (.slice D2.A2 S.l.length D2.c2)).setCell ⟨p,7,none⟩ (.slice D2.A3 S.h.length D2.c3)) r zS zX from (R1.out.up hb).put_far HPR.out.1.2.1 S D2)
  have N2:=Lh (show D2.nw (r+1) from hn2.low R1.out.lt)
  clear hn2 hr2 hb
  obtain ⟨⟨t0,t1,t2,t3,t4,t5,t6,t7,tl⟩,⟨f0,f1,f2,f3,f4,f5,f6,f7⟩⟩:=H2.out.s8.all
  obtain ⟨q0,q1,q2,q3,ql⟩:=Q2.out
  obtain ⟨⟨hpr,hrp,hpq,hqp⟩,-,-,-⟩:=HPR.out
  go_wp2_with fail
  clear t0 t1 t2 t3 t4 t5 t6 t7 tl f0 f1 f2 f3 f4 f5 f6 f7 q0 q1 q2 q3 ql hpr hrp hpq hqp H2 Q2 H1 Q1 R1
  generalize ((((((((w3.setCell ⟨p,0,none⟩ (.bool S.lv)).setCell ⟨p,1,none⟩ (.int .i64 S.lo)).setCell ⟨p,2,none⟩ (.int .i64 S.hi)).setCell ⟨p,3,none⟩ (.slice D2.A S.cs.length D2.c)).setCell ⟨p,4,none⟩ (.int .i64 S.hd)).setCell ⟨p,5,none⟩ (.int .i64 S.sz)).setCell ⟨p,6,none⟩ (.slice D2.A2 S.l.length D2.c2)).setCell ⟨p,7,none⟩ (.slice D2.A3 S.h.length D2.c3))=w3' at*
  refine (HRL.out _ _ _ H3.out).mono ?_
  rintro e w4 ⟨A3,c3,A4,c4,rfl,n3,n4,h3,h4,hb⟩
  have H4:=Lh (H3.out.below hb)
  have R4:=Lh (R3.out.up hb)
  have H5:=Lh (show SAt w p ⟨S.lv,S.lo,S.hi,S.cs,S.hd,S.sz,gl,gh⟩ ⟨D2.A,D2.c,A3,c3,A4,c4⟩ (((w4.setCell ⟨p,6,none⟩ (.slice A3 gl.length c3)).setCell ⟨p,7,none⟩ (.slice A4 gh.length c4))) from H4.out.setTab h3 h4 (offb_nw n3 H3.out.lt) (offb_nw n4 H3.out.lt))
  have N5:=Lh (show Nw (r+1) A3∧Nw (r+1) A4 from ⟨nw_low n3 R3.out.lt,nw_low n4 R3.out.lt⟩)
  clear n3 n4 h3 h4 hb
  have HF:=Lh (show SE w U 0 (.returned (.tuple #[.agg #[.bool S.lv,.int .i64 S.lo,.int .i64 S.hi,.slice D2.A S.cs.length D2.c,.int .i64 S.hd,.int .i64 S.sz,.slice A3 gl.length c3,.slice A4 gh.length c4],.int .i64 0])) (((((((((((w4.setCell ⟨p,6,none⟩ (.slice A3 gl.length c3)).setCell ⟨p,7,none⟩ (.slice A4 gh.length c4))).setCell ⟨r,0,none⟩ (.bool S.lv)).setCell ⟨r,1,none⟩ (.int .i64 S.lo)).setCell ⟨r,2,none⟩ (.int .i64 S.hi)).setCell ⟨r,3,none⟩ (.slice D2.A S.cs.length D2.c)).setCell ⟨r,4,none⟩ (.int .i64 S.hd)).setCell ⟨r,5,none⟩ (.int .i64 S.sz)).setCell ⟨r,6,none⟩ (.slice A3 gl.length c3)).setCell ⟨r,7,none⟩ (.slice A4 gh.length c4)) from by
   rw [HUU.out,if_pos trivial,HTT.out]
   have hne:=HPR.out.2
   exact ⟨⟨D2.A,D2.c,A3,c3,A4,c4⟩,rfl,⟨(N2.out.low (show w.heap.size≤r+1 by omega)).1,nw_low N5.out.1 (by omega),nw_low N5.out.2 (by omega)⟩,SR.sets (S:=⟨S.lv,S.lo,S.hi,S.cs,S.hd,S.sz,gl,gh⟩) (D:=⟨D2.A,D2.c,A3,c3,A4,c4⟩) ⟨(N2.out.off (Nat.lt_succ_self r)).o1,offb_nw N5.out.1 (Nat.lt_succ_self r),offb_nw N5.out.2 (Nat.lt_succ_self r)⟩ (Sh.l8 ⟨S.lv,S.lo,S.hi,S.cs,S.hd,S.sz,gl,gh⟩ ⟨D2.A,D2.c,A3,c3,A4,c4⟩) 0 _ H5.out.sr,set8s_below (show w.heap.size≤r by omega) H5.out.bel ⟨S.lv,S.lo,S.hi,S.cs,S.hd,S.sz,gl,gh⟩ ⟨D2.A,D2.c,A3,c3,A4,c4⟩⟩)
  obtain ⟨⟨t0,t1,t2,t3,t4,t5,t6,t7,tl⟩,⟨f0,f1,f2,f3,f4,f5,f6,f7⟩⟩:=H4.out.s8.all
  obtain ⟨⟨r0,r1,r2,r3,r4,r5,r6,r7,rl⟩,⟨g0,g1,g2,g3,g4,g5,g6,g7⟩⟩:=R4.out.all
  obtain ⟨⟨hpr,hrp,hpq,hqp⟩,-,-,-⟩:=HPR.out
  go_wp2
  exact bodyPost_ret (v:=.tuple #[.agg #[.bool S.lv,.int .i64 S.lo,.int .i64 S.hi,.slice D2.A S.cs.length D2.c,.int .i64 S.hd,.int .i64 S.sz,.slice A3 gl.length c3,.slice A4 gh.length c4],.int .i64 0]) (by simp only [results,Tryz.results19];go_simp <;> rfl) rfl HF.out
 ·have hne:(x != 0)=true:=bne_iff_ne.2 hx
  have HF:=Lh (show SE w U x (.returned (.tuple #[.agg #[.bool false,.int .i64 0,.int .i64 0,.slice none 0 0,.int .i64 0,.int .i64 0,.slice none 0 0,.slice none 0 0],.int .i64 x])) (z8 w2 r) from by
   rw [HUU.out,if_neg hx]
   have hne:=HPR.out.2
   exact se_zero (by omega) H1.out.bel)
  clear hx
  obtain ⟨⟨r0,r1,r2,r3,r4,r5,r6,r7,rl⟩,⟨g0,g1,g2,g3,g4,g5,g6,g7⟩⟩:=R1.out.all
  go_wp2
  exact bodyPost_ret (v:=.tuple #[.agg #[.bool false,.int .i64 0,.int .i64 0,.slice none 0 0,.int .i64 0,.int .i64 0,.slice none 0 0,.slice none 0 0],.int .i64 x]) (by simp only [results,Tryz.results19];go_simp <;> rfl) rfl HF.out
theorem nl_one (w:World) (a:Rn) (t:TypeId):Nl (w.alloc (.cells #[.int .i64 a.n,.int .i64 a.lo,.int .i64 a.hi] t)) (w.heap.size+1) (.slice (some ⟨w.heap.size,0,none⟩) 1 1) [a]:=by
 refine ⟨_,1,rfl,Nat.le_refl _,by unfold maxLen;omega,by simp [rcs,Rn.l],fun _=>⟨w.heap.size,0,rfl,Nat.lt_succ_self _,fun j u hu=>?_⟩⟩
 rw [Nat.zero_add,World.cell?_alloc_new]
 simpa [rcs,Rn.l] using hu
abbrev NkK (p q b:Nat) (S:Sh) (D:Sx) (H:Hn) (lim:Int) (W:World):Prop:=K8 p S D W∧W.cell? ⟨q,0,none⟩=some (.int .i64 H.id)∧W.cell? ⟨q,1,none⟩=some (.int .i64 H.gn)∧W.cell? ⟨q,2,none⟩=some (.int .i64 H.rt)∧W.cell? ⟨q,3,none⟩=some (.int .i64 H.ht)∧W.cell? ⟨b,0,none⟩=some (.int .i64 lim)
theorem NkK.mk {p q b:Nat} {S:Sh} {D:Sx} {H:Hn} {lim:Int} {W:World} (h:K8 p S D W) (k:H4 W q H) (c:W.cell? ⟨b,0,none⟩=some (.int .i64 lim)):NkK p q b S D H lim W:=⟨h,k.1,k.2.1,k.2.2.1,k.2.2.2.1,c⟩
set_option maxHeartbeats 8000000 in
set_option maxRecDepth 20000 in
theorem snack_any (S:Sh) (D:Sx) (H:Hn) (now ep lim:Int) (w:World) (hs:SR w w.heap.size S D) :
  Calls Tryz.prog 16 #[sv S D,H.v,.int .i64 now,.int .i64 ep,.int .i64 lim] w (SE w (if heS S H now ep (wi lim 1 8)=0 then gbN S H.id lim else zS) (heS S H now ep (wi lim 1 8))):=by
 have e1:(w.alloc (.cells #[.bool S.lv,.int .i64 S.lo,.int .i64 S.hi,.slice D.A S.cs.length D.c,.int .i64 S.hd,.int .i64 S.sz,.slice D.A2 S.l.length D.c2,.slice D.A3 S.h.length D.c3] 33)).heap.size=w.heap.size+1:=by simp
 have e2:((w.alloc (.cells #[.bool S.lv,.int .i64 S.lo,.int .i64 S.hi,.slice D.A S.cs.length D.c,.int .i64 S.hd,.int .i64 S.sz,.slice D.A2 S.l.length D.c2,.slice D.A3 S.h.length D.c3] 33)).alloc (.cells #[.int .i64 H.id,.int .i64 H.gn,.int .i64 H.rt,.int .i64 H.ht] 40)).heap.size=w.heap.size+1+1:=by simp
 have e3:(((w.alloc (.cells #[.bool S.lv,.int .i64 S.lo,.int .i64 S.hi,.slice D.A S.cs.length D.c,.int .i64 S.hd,.int .i64 S.sz,.slice D.A2 S.l.length D.c2,.slice D.A3 S.h.length D.c3] 33)).alloc (.cells #[.int .i64 H.id,.int .i64 H.gn,.int .i64 H.rt,.int .i64 H.ht] 40)).alloc (.cells #[.int .i64 lim] 3)).heap.size=w.heap.size+1+1+1:=by simp
 have H0:=Lh ((((SAt.start 33 hs).alloc (.cells #[.int .i64 H.id,.int .i64 H.gn,.int .i64 H.rt,.int .i64 H.ht] 40)).alloc (.cells #[.int .i64 lim] 3)).alloc (.cells #[.bool false,.int .i64 0,.int .i64 0,.slice none 0 0,.int .i64 0,.int .i64 0,.slice none 0 0,.slice none 0 0] 33))
 have Q0:=Lh (((H4.start (w.alloc (.cells #[.bool S.lv,.int .i64 S.lo,.int .i64 S.hi,.slice D.A S.cs.length D.c,.int .i64 S.hd,.int .i64 S.sz,.slice D.A2 S.l.length D.c2,.slice D.A3 S.h.length D.c3] 33)) H 40).up ((Below.refl _ _).alloc (Nat.le_refl _) (.cells #[.int .i64 lim] 3))).up ((Below.refl _ _).alloc (Nat.le_refl _) (.cells #[.bool false,.int .i64 0,.int .i64 0,.slice none 0 0,.int .i64 0,.int .i64 0,.slice none 0 0,.slice none 0 0] 33)))
 have R0:=Lh (SB8.zero (((w.alloc (.cells #[.bool S.lv,.int .i64 S.lo,.int .i64 S.hi,.slice D.A S.cs.length D.c,.int .i64 S.hd,.int .i64 S.sz,.slice D.A2 S.l.length D.c2,.slice D.A3 S.h.length D.c3] 33)).alloc (.cells #[.int .i64 H.id,.int .i64 H.gn,.int .i64 H.rt,.int .i64 H.ht] 40)).alloc (.cells #[.int .i64 lim] 3)) 33)
 have L0:Hid (((((w.alloc (.cells #[.bool S.lv,.int .i64 S.lo,.int .i64 S.hi,.slice D.A S.cs.length D.c,.int .i64 S.hd,.int .i64 S.sz,.slice D.A2 S.l.length D.c2,.slice D.A3 S.h.length D.c3] 33)).alloc (.cells #[.int .i64 H.id,.int .i64 H.gn,.int .i64 H.rt,.int .i64 H.ht] 40)).alloc (.cells #[.int .i64 lim] 3)).alloc (.cells #[.bool false,.int .i64 0,.int .i64 0,.slice none 0 0,.int .i64 0,.int .i64 0,.slice none 0 0,.slice none 0 0] 33)).cell? ⟨w.heap.size+1+1,0,none⟩=some (.int .i64 lim)):=Lh (by simp [go_sem])
 rw [e1] at Q0
 rw [e3] at R0
 have HHE:=Lh (fun A p W (k:SAt w p S D W) (hn:Nl W W.heap.size (.slice (some A) 1 1) [⟨lim,1,8⟩])=>(show Calls Tryz.prog 50 #[sv S D,H.v,.int .i64 now,.int .i64 ep,.slice (some A) 1 1] W (VlT W (heS S H now ep (wi lim 1 8))) from by
  have h:=sherr_any S D H now ep (some A) [⟨lim,1,8⟩] W k.sr hn (fun h=>by cases h) (by simp)
  have he:([⟨lim,1,8⟩]:List Rn).all Rn.ok=wi lim 1 8:=by simp [Rn.ok]
  rw [he] at h
  exact h))
 obtain ⟨x,hx⟩:∃ x,x=heS S H now ep (wi lim 1 8):=⟨_,rfl⟩
 rw [←hx] at HHE
 rw [←hx]
 have HL:=Lh (fun W=>alimit_any lim W)
 have HGB:=Lh (fun p b W (q:SAt w p S D W) (hc:W.cell? ⟨b,0,none⟩=some (.int .i64 lim)) (hb:b<W.heap.size)=>givenack_any S D H.id b lim W q.sr hc hb)
 obtain ⟨T,hT⟩:∃ T,T=gbN S H.id lim:=⟨_,rfl⟩
 obtain ⟨U,hU⟩:∃ U,U=if x=0 then gbN S H.id lim else zS:=⟨_,rfl⟩
 have HUU:=Lh (show U=if x=0 then T else zS from by rw [hU,hT])
 rw [←hU]
 rw [←hT] at HGB
 clear hU hT hs hx
 go_enter Tryz.func16,Tryz.ntmps16
 obtain ⟨p,hp⟩:∃ p,p=w.heap.size:=⟨_,rfl⟩
 obtain ⟨q,hq⟩:∃ q,q=w.heap.size+1:=⟨_,rfl⟩
 obtain ⟨b,hb0⟩:∃ b,b=w.heap.size+1+1:=⟨_,rfl⟩
 obtain ⟨r,hr⟩:∃ r,r=w.heap.size+1+1+1:=⟨_,rfl⟩
 have HPR:=Lh (show w.heap.size≤p∧p<q∧q<b∧b<r by omega)
 rw [←hr] at R0
 rw [←hb0] at L0
 rw [←hq] at Q0
 rw [←hp] at H0
 clear e1 e2 e3
 go_upto_region 1 with (fail)
 rw [←hr,←hb0,←hq,←hp]
 clear hp hq hb0 hr
 generalize ((((w.alloc (.cells #[.bool S.lv,.int .i64 S.lo,.int .i64 S.hi,.slice D.A S.cs.length D.c,.int .i64 S.hd,.int .i64 S.sz,.slice D.A2 S.l.length D.c2,.slice D.A3 S.h.length D.c3] 33)).alloc (.cells #[.int .i64 H.id,.int .i64 H.gn,.int .i64 H.rt,.int .i64 H.ht] 40)).alloc (.cells #[.int .i64 lim] 3)).alloc (.cells #[.bool false,.int .i64 0,.int .i64 0,.slice none 0 0,.int .i64 0,.int .i64 0,.slice none 0 0,.slice none 0 0] 33))=w1 at*
 have HLT:=Lh (show b<w1.heap.size from Nat.lt_trans HPR.out.2.2.2 R0.out.lt)
 have HD:=Lh H0.out.drew
 have Q1:=Lh (Q0.out.up ((Below.refl _ _).drew))
 have R1:=Lh (R0.out.up ((Below.refl _ _).drew))
 have L1:=Lh (show w1.drew.cell? ⟨b,0,none⟩=some (.int .i64 lim) from L0.out)
 have HT0:=Lh (show NkK p q b S D H lim w1.drew from NkK.mk HD.out.k8 Q1.out L1.out)
 go_region_held3 (fun W=>NkK p q b S D H lim W)
  (first | with_reducible exact HT0.out | with_reducible exact HT1.out | with_reducible exact HT2.out | with_reducible exact HT3.out | with_reducible exact HT4.out | with_reducible exact HT5.out)
  (first
  | (go_at_call 44;(with_reducible refine (HL.out _).mono ?_);rintro e w3 ⟨rfl,hb⟩;have HB2:=Lh hb;have HA2:=Lh ((HD.out.below hb).alloc (.cells #[.int .i64 lim,.int .i64 1,.int .i64 8] 82));have HB3:=Lh (hb.trans ((((Below.refl w3.heap.size w3).alloc (Nat.le_refl _) (.cells #[.int .i64 lim,.int .i64 1,.int .i64 8] 82))).mono hb.size));have Q2:=Lh (Q1.out.up HB3.out);have R2:=Lh (R1.out.up HB3.out);have L2:=Lh ((HB3.out.cell (p:=⟨b,0,none⟩) HLT.out).trans L1.out);have HT1:=Lh (show NkK p q b S D H lim w3 from NkK.mk (HD.out.below hb).k8 (Q1.out.up hb) ((hb.cell (p:=⟨b,0,none⟩) HLT.out).trans L1.out));have HT2:=Lh (show NkK p q b S D H lim (w3.alloc (.cells #[.int .i64 lim,.int .i64 1,.int .i64 8] 82)) from NkK.mk HA2.out.k8 Q2.out L2.out);have HNL:=Lh (nl_one w3 ⟨lim,1,8⟩ 82);clear hb)
  | (go_at_call 50;(with_reducible refine (HHE.out _ _ _ HA2.out ?_).mono ?_);(have:=HNL.out;simpa using this);rintro e w5 ⟨rfl,hb⟩;have HA5:=Lh (HA2.out.below hb);have Q5:=Lh (Q2.out.up hb);have R5:=Lh (R2.out.up hb);have HB5:=Lh (HB3.out.trans (hb.mono HB3.out.size));have L5:=Lh ((HB5.out.cell (p:=⟨b,0,none⟩) HLT.out).trans L1.out);have HT3:=Lh (show NkK p q b S D H lim w5 from NkK.mk HA5.out.k8 Q5.out L5.out);clear hb))
 have HL5:=Lh (show b<w5.heap.size from Nat.lt_trans HPR.out.2.2.2 R5.out.lt)
 clear HD HT0 HT1 HT2 HT3 HA2 HNL HL HHE H0 R0 R1 R2 Q0 Q1 Q2 HB2 HB3 HB5 L0 L1 L2 HLT
 by_cases hx:x=0
 ·have HX:=Lh hx
  subst hx
  obtain ⟨t0,t1,t2,t3,t4,t5,t6,t7,tl⟩:=HA5.out.s8.facts
  obtain ⟨q0,q1,q2,q3,ql⟩:=Q5.out
  go_wp2_with fail
  clear t0 t1 t2 t3 t4 t5 t6 t7 tl q0 q1 q2 q3 ql
  refine (HGB.out _ _ _ HA5.out L5.out HL5.out).mono ?_
  rintro e w6 ⟨D2,rfl,hn2,hr2,hb⟩
  have R6:=Lh (R5.out.up hb)
  have HF:=Lh (show SE w U 0 (.returned (.tuple #[.agg #[.bool T.lv,.int .i64 T.lo,.int .i64 T.hi,.slice D2.A T.cs.length D2.c,.int .i64 T.hd,.int .i64 T.sz,.slice D2.A2 T.l.length D2.c2,.slice D2.A3 T.h.length D2.c3],.int .i64 0])) ((((((((w6.setCell ⟨r,0,none⟩ (.bool T.lv)).setCell ⟨r,1,none⟩ (.int .i64 T.lo)).setCell ⟨r,2,none⟩ (.int .i64 T.hi)).setCell ⟨r,3,none⟩ (.slice D2.A T.cs.length D2.c)).setCell ⟨r,4,none⟩ (.int .i64 T.hd)).setCell ⟨r,5,none⟩ (.int .i64 T.sz)).setCell ⟨r,6,none⟩ (.slice D2.A2 T.l.length D2.c2)).setCell ⟨r,7,none⟩ (.slice D2.A3 T.h.length D2.c3)) from by
   rw [HUU.out,if_pos trivial]
   have hne:=HPR.out
   have hbel:=HA5.out.bel
   have hlt:=R5.out.lt
   exact ⟨D2,rfl,hn2.low hbel.size,SR.sets (hn2.off hlt) (T.l8 D2) 0 _ hr2,set8s_below (show w.heap.size≤r by omega) (hbel.trans (hb.mono hbel.size)) T D2⟩)
  clear hn2 hr2 hb
  obtain ⟨⟨r0,r1,r2,r3,r4,r5,r6,r7,rl⟩,⟨g0,g1,g2,g3,g4,g5,g6,g7⟩⟩:=R6.out.all
  go_wp2
  exact bodyPost_ret (v:=.tuple #[.agg #[.bool T.lv,.int .i64 T.lo,.int .i64 T.hi,.slice D2.A T.cs.length D2.c,.int .i64 T.hd,.int .i64 T.sz,.slice D2.A2 T.l.length D2.c2,.slice D2.A3 T.h.length D2.c3],.int .i64 0]) (by simp only [results,Tryz.results16];go_simp <;> rfl) rfl HF.out
 ·have hne:(x != 0)=true:=bne_iff_ne.2 hx
  have HF:=Lh (show SE w U x (.returned (.tuple #[.agg #[.bool false,.int .i64 0,.int .i64 0,.slice none 0 0,.int .i64 0,.int .i64 0,.slice none 0 0,.slice none 0 0],.int .i64 x])) (z8 w5 r) from by
   rw [HUU.out,if_neg hx]
   have hne:=HPR.out
   exact se_zero (by omega) HA5.out.bel)
  clear hx
  obtain ⟨⟨r0,r1,r2,r3,r4,r5,r6,r7,rl⟩,⟨g0,g1,g2,g3,g4,g5,g6,g7⟩⟩:=R5.out.all
  go_wp2
  exact bodyPost_ret (v:=.tuple #[.agg #[.bool false,.int .i64 0,.int .i64 0,.slice none 0 0,.int .i64 0,.int .i64 0,.slice none 0 0,.slice none 0 0],.int .i64 x]) (by simp only [results,Tryz.results16];go_simp <;> rfl) rfl HF.out
end Go.Proofs.YtncgbldcjfbknaaGreat
