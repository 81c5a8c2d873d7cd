/- What is proved here: shard.Take of a valid live shard; Bnl; shardqueueref05.swap, up by contracts; shardqueueref05.Push by a contract; shardqueueref06.Grant by a contract. -/
import Derived.Test.YtncgbldcjfbknaaGreatJ24
namespace Go.Proofs.YtncgbldcjfbknaaGreat
open Go.RowKit
set_option linter.unusedVariables false
structure TkAt (w:World) (p r B:Nat) (S:Sh) (D:Sx) (A0:Option Addr) (c0:Nat) (L:List Msg) (lv:Value) (K:List Le) (W:World):Prop where
 sa:SAt w p S D W
 rs:SB8 W r zS zX
 l0:Ls W B (.slice A0 L.length c0) L
 o0:OffB p L.length A0
 own:W.ownsRow B 58 8 lv K.length (ecs K)
 dj:∀ q,lv.ownBlock=some q→SOff S D q
 dr:D.nw (r+1)
 ne:p<r∧r<B∧B≤W.heap.size
section
variable {w W W' : World} {p r B c0:Nat} {S:Sh} {D:Sx} {A0:Option Addr} {L:List Msg} {K K' : List Le} {lv:Value}
theorem TkAt.below (h:TkAt w p r B S D A0 c0 L lv K W) (hb:Below W.heap.size W W'):TkAt w p r B S D A0 c0 L lv K W':=
 ⟨h.sa.below hb,h.rs.up hb,h.l0.below (hb.mono h.ne.2.2),h.o0,own_below h.own hb,h.dj,h.dr,h.ne.1,h.ne.2.1,Nat.le_trans h.ne.2.2 hb.size⟩
theorem TkAt.box (h:TkAt w p r B S D A0 c0 L lv K W) {q:Addr} (hq:B≤q.block) (hrow:∀ x,lv.ownBlock=some x→x≠q.block) (ho:SOff S D q.block) (v:Value):TkAt w p r B S D A0 c0 L lv K (W.setCell q v):=by
 have hne:=h.ne
 refine ⟨h.sa.other (by omega) ho (by have:=h.sa.old;omega) v,h.rs.other (by omega) v,h.l0.setCell hq v,h.o0,?_,h.dj,h.dr,hne.1,hne.2.1,by simpa using hne.2.2⟩
 refine ⟨h.own.1,h.own.2.imp_right fun ⟨g,cap,cur,hv,hg,hh,rr⟩=>⟨g,cap,cur,hv,hg,?_,rr⟩⟩
 rw [←hh]
 exact Below.heap_setCell W q v g (fun e=>hrow g (by rw [hv];rfl) e)
theorem TkAt.setTab {A2 A3:Option Addr} {c2 c3:Nat} {l:List Le} {hh:List Du} (h:TkAt w p r B S D A0 c0 L lv K W) (hl:El W W.heap.size (.slice A2 l.length c2) l) (hd:Dl W W.heap.size (.slice A3 hh.length c3) hh) {lo:Nat} (n2:Nw lo A2) (n3:Nw lo A3) (hlo:B≤lo) (hrow:∀ q,lv.ownBlock=some q→q<lo) :
  TkAt w p r B ⟨S.lv,S.lo,S.hi,S.cs,S.hd,S.sz,l,hh⟩ ⟨D.A,D.c,A2,c2,A3,c3⟩ A0 c0 L lv K ((W.setCell ⟨p,6,none⟩ (.slice A2 l.length c2)).setCell ⟨p,7,none⟩ (.slice A3 hh.length c3)):=by
 have hne:=h.ne
 exact ⟨h.sa.setTab hl hd (offb_nw n2 (by omega)) (offb_nw n3 (by omega)),(h.rs.other (q:=⟨p,6,none⟩) (show p≠r by omega) _).other (q:=⟨p,7,none⟩) (show p≠r by omega) _,
  (h.l0.offp (p:=⟨p,6,none⟩) h.o0 _).offp (p:=⟨p,7,none⟩) h.o0 _,h.o0,
  own_set (own_set h.own (q:=⟨p,6,none⟩) (show p<B by omega) _) (q:=⟨p,7,none⟩) (show p<B by omega) _,
  fun q e=>⟨(h.dj q e).o1,offb_nw n2 (hrow q e),offb_nw n3 (hrow q e)⟩,⟨h.dr.n1,nw_low n2 (by omega),nw_low n3 (by omega)⟩,hne.1,hne.2.1,by simpa using hne.2.2⟩
theorem TkAt.app {lv' : Value} (h:TkAt w p r B S D A0 c0 L lv K W) (ho:W'.ownsRow B 58 8 lv' K'.length (ecs K')) (hg:W.grownBy W' lv.ownBlock) (hw:∀ q,lv'.ownBlock=some q→lv.ownBlock=some q∨W.heap.size≤q):TkAt w p r B S D A0 c0 L lv' K' W':=by
 have hne:=h.ne
 have hlt:∀ q,lv.ownBlock=some q→B≤q:=fun q e=>(h.own.lt q e).1
 refine ⟨h.sa.grown hg (fun q e=>⟨h.dj q e,by have:=hlt q e;omega⟩),h.rs.grown hg (fun q e=>by have:=hlt q e;omega),h.l0.grownR hne.2.2 hg (fun q e=>?_),h.o0,ho,fun q e=>?_,h.dr,hne.1,hne.2.1,Nat.le_trans hne.2.2 hg.size⟩
 ·exact rd_off h.l0.rd (hlt q e)
 ·rcases hw q e with e' | e'
  ·exact h.dj q e'
  ·exact h.sa.sr.offs e'
end
theorem ecs_end {w1:World} {base g cap:Nat} {K:List Le} {X:Le} (hown:w1.ownsRow base 58 8 (.slice (some ⟨g,0,none⟩) (K.length+1) cap) (K.length+1) (ecs K++X.l)):w1.ownsRow base 58 8 (.slice (some ⟨g,0,none⟩) (K.length+1) cap) (K++[X]).length (ecs (K++[X])):=by
 have hM1:ecs [X]=X.l:=by simp [ecs]
 rw [ecs_app,hM1,List.length_append]
 exact hown
theorem lease_row (w:World) (X:Le) (t:TypeId):∀ j u,X.l[j]? = some u→(w.alloc (.cells #[.int .i64 X.m.id,.int .i64 X.m.rt,.int .i64 X.m.ep,.int .i64 X.m.ct,.int .i64 X.m.gn,.int .i64 X.m.st,.string X.m.bd,.int .i64 X.dl] t)).cell? ((⟨w.heap.size,0,none⟩:Addr).add j)=some u:=fun j u hu=>by
 rw [add_mk,Nat.zero_add,World.cell?_alloc_new]
 simpa [Le.l] using hu
theorem MBx.put7 {W:World} {q:Nat} {M:Msg} (h:MBx W q M) (N:Msg):MBx ((((((((W.setCell ⟨q,0,none⟩ (.int .i64 N.id)).setCell ⟨q,1,none⟩ (.int .i64 N.rt)).setCell ⟨q,2,none⟩ (.int .i64 N.ep)).setCell ⟨q,3,none⟩ (.int .i64 N.ct)).setCell ⟨q,4,none⟩ (.int .i64 N.gn)).setCell ⟨q,5,none⟩ (.int .i64 N.st)).setCell ⟨q,6,none⟩ (.string N.bd))) q N:=by
 have ht:∀ j,j<N.l.length→(W.cell? ⟨q,0+j,none⟩).isSome=true:=by
  intro j hj
  obtain ⟨h0,h1,h2,h3,h4,h5,h6⟩:=h.m7
  rw [Nat.zero_add]
  have hj7:j<7:=hj
  match j,hj7 with
  | 0,_=>rw [h0];rfl
  | 1,_=>rw [h1];rfl
  | 2,_=>rw [h2];rfl
  | 3,_=>rw [h3];rfl
  | 4,_=>rw [h4];rfl
  | 5,_=>rw [h5];rfl
  | 6,_=>rw [h6];rfl
 have g:∀ j,j<7→(W.setCells q 0 N.l).cell? ⟨q,j,none⟩=N.l[j]?:=fun j hj=>by
  have e:=World.cell?_setCells_in q N.l 0 W ht j hj
  rw [Nat.zero_add] at e
  rw [e,List.getElem?_eq_getElem (show j<N.l.length from hj)]
  rfl
 exact ⟨⟨g 0 (by decide),g 1 (by decide),g 2 (by decide),g 3 (by decide),g 4 (by decide),g 5 (by decide),g 6 (by decide)⟩,fun o=>by show (W.setCells q 0 N.l).frozen? _=_;rw [World.frozen?_setCells];exact h.fr o,by show q<(W.setCells q 0 N.l).heap.size;rw [sets_size];exact h.lt⟩
theorem TkAt.put7 {w W:World} {p r B c0:Nat} {S:Sh} {D:Sx} {A0:Option Addr} {L:List Msg} {K:List Le} {lv:Value} (h:TkAt w p r B S D A0 c0 L lv K W) {q:Nat} (hq:B≤q) (hrow:∀ x,lv.ownBlock=some x→x≠q) (ho:SOff S D q) (N:Msg):TkAt w p r B S D A0 c0 L lv K ((((((((W.setCell ⟨q,0,none⟩ (.int .i64 N.id)).setCell ⟨q,1,none⟩ (.int .i64 N.rt)).setCell ⟨q,2,none⟩ (.int .i64 N.ep)).setCell ⟨q,3,none⟩ (.int .i64 N.ct)).setCell ⟨q,4,none⟩ (.int .i64 N.gn)).setCell ⟨q,5,none⟩ (.int .i64 N.st)).setCell ⟨q,6,none⟩ (.string N.bd))):=
 ((((((h.box (q:=⟨q,0,none⟩) hq hrow ho _).box (q:=⟨q,1,none⟩) hq hrow ho _).box (q:=⟨q,2,none⟩) hq hrow ho _).box (q:=⟨q,3,none⟩) hq hrow ho _).box (q:=⟨q,4,none⟩) hq hrow ho _).box (q:=⟨q,5,none⟩) hq hrow ho _).box (q:=⟨q,6,none⟩) hq hrow ho _
def lzF (dl:Int) (T:List Msg):List Le:=T.map (fun M=>⟨dlM M,dl⟩)
theorem lz_succ {dl:Int} {T:List Msg} {k:Nat} (h:k<T.length):lzF dl (T.take (k+1))=lzF dl (T.take k)++[⟨dlM T[k],dl⟩]:=by
 rw [←List.take_append_getElem h]
 unfold lzF
 rw [List.map_append]
 rfl
theorem tk_next {V:Vs} {dl:Int} {T:List Msg} {k:Nat} (h:k<T.length) {S S' : Sh} (hS:S=(V.grs dl (T.take k)).sh) (hS' : S' = (V.grs dl (T.take (k+1))).sh) :
  S' = ⟨S.lv,S.lo,S.hi,S.cs,S.hd,S.sz,grL S.l S.h ⟨dlM T[k],dl⟩,grH S.l S.h ⟨dlM T[k],dl⟩⟩:=by
 rw [hS',←List.take_append_getElem h,grs_snoc,hS]
 rfl
theorem Ls.setsP {W:World} {p B n c:Nat} {A:Option Addr} {l:List Msg} (ho:OffB p n A):∀ (vs:List Value) (m:Nat) (W:World),Ls W B (.slice A n c) l→Ls (W.setCells p m vs) B (.slice A n c) l
 | [],_,_,h=>h
 | v::r,m,W,h=>Ls.setsP (W:=W) ho r (m+1) _ (h.offp (p:=⟨p,m,none⟩) ho v)
theorem tk_out {w W:World} {p r B:Nat} {S:Sh} {D:Sx} {A0:Option Addr} {c0:Nat} {L:List Msg} {K:List Le} {lv:Value} (h:TkAt w p r B S D A0 c0 L lv K W):SLe w S K 0 (.returned (.tuple #[sv S D,lv,.int .i64 0])) (set8s W r S D):=by
 have hne:=h.ne
 have hold:=h.sa.old
 obtain ⟨A,c,rfl⟩:=own_form h.own
 refine ⟨D,A,c,rfl,h.dr.low (by omega),SR.sets (h.dr.off (Nat.lt_succ_self r)) (S.l8 D) 0 W h.sa.sr,nwv_of (nwv_own h.own (by omega)),?_,set8s_below (by omega) h.sa.bel S D⟩
 have hw:=own_sets (r:=r) (show r<B by omega) (S.l8 D) 0 W h.own
 rw [set8s_eq]
 exact El.of_own hw
set_option maxHeartbeats 8000000 in
set_option maxRecDepth 20000 in
theorem stake_ok (V:Vs) (k:V.Ok) (D:Sx) (mx:Nat) (now vis ep lim:Int) (w:World) (hs:SR w w.heap.size V.sh D) (hB:tkB mx now vis ep lim=true) (hdl:now+vis≤1073741824) :
  Calls Tryz.prog 15 #[sv V.sh D,.int .i64 (mx:Int),.int .i64 now,.int .i64 vis,.int .i64 ep,.int .i64 lim] w (SLe w (V.take mx (fun M=>rvF M ep lim) (now+vis)).sh (lzF (now+vis) (pk mx (fun M=>rvF M ep lim) V.L).1) 0):=by
 obtain ⟨i0,hi0,hz0⟩:=Option.map_eq_some_iff.1 info_lease
 simp only [Prod.mk.injEq] at hz0
 have HI:=Lh hi0
 have HZ:=Lh hz0
 have hmx:mx≤6:=by
  unfold tkB at hB
  simp only [Bool.and_eq_true] at hB
  have:=wi_of hB.2.2.2.2
  omega
 have hw:wrap64 (now+vis)=now+vis:=by
  unfold tkB at hB
  simp only [Bool.and_eq_true] at hB
  have h1:=wi_of hB.1
  have h2:=wi_of hB.2.1
  exact IntWalk.wrap64_in _ (by omega)
 obtain ⟨T,hT⟩:∃ T,T=(pk mx (fun M=>rvF M ep lim) V.L).1:=⟨_,rfl⟩
 obtain ⟨V1,hV1⟩:∃ V1,V1=V.ring (pk mx (fun M=>rvF M ep lim) V.L).2:=⟨_,rfl⟩
 obtain ⟨dl,hdd⟩:∃ dl,dl=now+vis:=⟨_,rfl⟩
 have hTK:V.take mx (fun M=>rvF M ep lim) (now+vis)=V1.grs dl T:=by rw [hT,hV1,hdd];rfl
 have HTL:=Lh (show T.length≤12 by rw [hT];have h1:=(pk_sub mx (fun M=>rvF M ep lim) V.L).2.1.length_le;have:=k.lenL;have:=k.n2;omega)
 have HPU:=Lh (fun p b1 b2 D W (q:SAt w p V.sh D W) (c:CapAt b1 b2 ep lim W)=>spull_any V k D mx b1 b2 ep lim W q.sr c (by omega))
 have HV:=Lh (fun A c p W (q:SAt w p V.sh D W) (hn:Nl W W.heap.size (.slice A 5 c) [⟨now,0,1073741824⟩,⟨vis,0,1000⟩,⟨ep,0,65536⟩,⟨lim,1,8⟩,⟨(mx:Int),1,6⟩])=>sexam_any V.sh D A 5 c [⟨now,0,1073741824⟩,⟨vis,0,1000⟩,⟨ep,0,65536⟩,⟨lim,1,8⟩,⟨(mx:Int),1,6⟩] W q.sr hn)
 have HE:([⟨now,0,1073741824⟩,⟨vis,0,1000⟩,⟨ep,0,65536⟩,⟨lim,1,8⟩,⟨(mx:Int),1,6⟩]:List Rn).all Rn.ok=tkB mx now vis ep lim:=by simp [Rn.ok,tkB]
 rw [HE,hB,k.ex true,if_pos rfl] at HV
 rw [hTK,←hT,←hdd]
 rw [←hT,←hV1] at HPU
 have hw2:wrap64 (now+vis)=dl:=by rw [hw,hdd]
 rw [←hdd] at hdl
 clear hw
 obtain ⟨S2,hS2⟩:∃ S2,S2=V1.sh:=⟨_,rfl⟩
 rw [←hS2] at HPU
 have HS2:=Lh (show S2=(V1.grs dl (T.take 0)).sh from hS2)
 have HLZ0:=Lh (show lzF dl (T.take T.length)=lzF dl T by rw [List.take_length])
 have HGZ0:=Lh (show V1.grs dl (T.take T.length)=V1.grs dl T by rw [List.take_length])
 have HTN:=Lh (fun j (h:j<T.length) S S' hS hS'=>tk_next (V:=V1) (dl:=dl) (T:=T) (k:=j) h (S:=S) (S':=S') hS hS')
 clear hS2
 have H0:=Lh (TqAt.start w V.sh D ep lim 33 3 hs)
 clear HE hs hB hT hV1 hdd hTK k hmx hi0 hz0
 obtain ⟨S,hS⟩:∃ S,S=V.sh:=⟨_,rfl⟩
 rw [←hS] at HPU HV H0
 rw [←hS]
 clear hS
 have hdl' : ¬1073741824<dl:=by omega
 have HT:=Lh (fun W=>atime_any now W)
 have HVI:=Lh (fun W=>avis_any vis W)
 have HP:=Lh (fun W=>aepoch_any ep W)
 have HL:=Lh (fun W=>alimit_any lim W)
 have hmf:∀ (fn:Fn) (first cap:Array Value) (w:World),(Instr.makeFunc fn first cap).run Tryz.prog w=.ok (.func fn first cap) w:=fun _ _ _ _=>rfl
 have hl64:T.length≤9223372036854775807:=by have:=HTL.out;omega
 clear hdl
 go_enter Tryz.func15,Tryz.ntmps15
 obtain ⟨p,hp⟩:∃ p,p=w.heap.size:=⟨_,rfl⟩
 obtain ⟨b1,hb1⟩:∃ p,p=w.heap.size+1:=⟨_,rfl⟩
 obtain ⟨b2,hb2⟩:∃ p,p=w.heap.size+1+1:=⟨_,rfl⟩
 obtain ⟨r,hr⟩:∃ p,p=w.heap.size+1+1+1:=⟨_,rfl⟩
 go_upto_region 1 with (fail)
 rw [←hr,←hb2,←hb1,←hp]
 rw [←hr,←hb2,←hb1,←hp] at H0
 clear hp hb1 hb2 hr
 generalize ((((w.alloc (.cells #[.bool S.lv,.int .i64 S.lo,.int .i64 S.hi,.slice D.A S.cs.length D.c,.int .i64 S.hd,.int .i64 S.sz,.slice D.A2 S.l.length D.c2,.slice D.A3 S.h.length D.c3] 33)).alloc (.cells #[.int .i64 ep] 3)).alloc (.cells #[.int .i64 lim] 3)).alloc (.cells #[.bool false,.int .i64 0,.int .i64 0,.slice none 0 0,.int .i64 0,.int .i64 0,.slice none 0 0,.slice none 0 0] 33))=w1 at*
 have HD:=Lh H0.out.drew
 have HT0:=Lh (show TqK p b1 b2 S D ep lim w1.drew from HD.out.k)
 go_region_held3 (fun W=>TqK p b1 b2 S D ep lim W)
  (first | with_reducible exact HT0.out | with_reducible exact HT1.out | with_reducible exact HT2.out | with_reducible exact HT3.out | with_reducible exact HT4.out | with_reducible exact HT5.out | with_reducible exact HT6.out)
  (first
  | (go_at_call 41;(with_reducible refine (HT.out _).mono ?_);rintro e w2 ⟨rfl,hb⟩;have HA1:=Lh (HD.out.below hb);have HT1:=Lh HA1.out.k;clear hb)
  | (go_at_call 42;(with_reducible refine (HVI.out _).mono ?_);rintro e w3 ⟨rfl,hb⟩;have HA2:=Lh (HA1.out.below hb);have HT2:=Lh HA2.out.k;clear hb)
  | (go_at_call 43;(with_reducible refine (HP.out _).mono ?_);rintro e w4 ⟨rfl,hb⟩;have HA3:=Lh (HA2.out.below hb);have HT3:=Lh HA3.out.k;clear hb)
  | (go_at_call 44;(with_reducible refine (HL.out _).mono ?_);rintro e w5 ⟨rfl,hb⟩;have HA4:=Lh (HA3.out.below hb);have HT4:=Lh HA4.out.k;have HA5:=Lh (HA4.out.alloc (.cells #[.int .i64 now,.int .i64 0,.int .i64 1073741824,.int .i64 vis,.int .i64 0,.int .i64 1000,.int .i64 ep,.int .i64 0,.int .i64 65536,.int .i64 lim,.int .i64 1,.int .i64 8,.int .i64 (mx:Int),.int .i64 1,.int .i64 6] 82));have HT5:=Lh HA5.out.k;have HNL:=Lh (nl_five w5 ⟨now,0,1073741824⟩ ⟨vis,0,1000⟩ ⟨ep,0,65536⟩ ⟨lim,1,8⟩ ⟨mx,1,6⟩ 82);clear hb)
  | (go_at_call 40;(with_reducible refine (HV.out _ _ _ _ HA5.out.sa ?_).mono ?_);(have:=HNL.out;simpa using this);rintro e w6 ⟨rfl,hb⟩;have HA6:=Lh (HA5.out.below hb);have HT6:=Lh HA6.out.k;clear hb))
 clear HD HT0 HT1 HT2 HT3 HT4 HT5 HT6 HA1 HA2 HA3 HA4 HA5 HNL HT HVI HP HL HV H0
 obtain ⟨t0,t1,t2,t3,t4,t5,t6,t7,tl⟩:=HA6.out.sa.s8.facts
 go_wp2_with fail
 clear t0 t1 t2 t3 t4 t5 t6 t7 tl
 refine (HPU.out _ _ _ _ _ HA6.out.sa HA6.out.cap).mono ?_
 rintro e w7 ⟨D2,A2,c2,rfl,hn,hr,hnA,hlA,hb⟩
 have HA7:=Lh (HA6.out.below hb)
 have HPR:=Lh (show ¬p=r∧¬r=p∧p<r∧r<w7.heap.size by have h1:=HA6.out.ne;have h2:=HA7.out.rs.lt;omega)
 have HP0:=Lh (show TkAt w p r w7.heap.size S2 D2 A2 c2 T (.slice none 0 0) [] ((((((((w7.setCell ⟨p,0,none⟩ (.bool S2.lv)).setCell ⟨p,1,none⟩ (.int .i64 S2.lo)).setCell ⟨p,2,none⟩ (.int .i64 S2.hi)).setCell ⟨p,3,none⟩ (.slice D2.A S2.cs.length D2.c)).setCell ⟨p,4,none⟩ (.int .i64 S2.hd)).setCell ⟨p,5,none⟩ (.int .i64 S2.sz)).setCell ⟨p,6,none⟩ (.slice D2.A2 S2.l.length D2.c2)).setCell ⟨p,7,none⟩ (.slice D2.A3 S2.h.length D2.c3)) from
  ⟨HA7.out.sa.put hr (hn.off HA6.out.sa.lt),HA7.out.rs.put_far HPR.out.2.1 S2 D2,Ls.setsP (W:=w7) (offb_nw hnA HA6.out.sa.lt) (S2.l8 D2) 0 w7 hlA,offb_nw hnA HA6.out.sa.lt,World.ownsRow_nil _ _ _ _,fun q e=>by simp [Value.ownBlock] at e,hn.low HA6.out.rs.lt,HPR.out.2.2.1,HPR.out.2.2.2,by show _≤(set8s w7 p S2 D2).heap.size;rw [set8s_size];exact Nat.le_refl _⟩)
 obtain ⟨⟨t0,t1,t2,t3,t4,t5,t6,t7,tl⟩,⟨f0,f1,f2,f3,f4,f5,f6,f7⟩⟩:=HA7.out.sa.s8.all
 clear hn hr hnA hlA hb HPU HA6
 go_wp2
 clear t0 t1 t2 t3 t4 t5 t6 t7 tl f0 f1 f2 f3 f4 f5 f6 f7 HA7
 obtain ⟨B,hB⟩:∃ B,B=w7.heap.size:=⟨_,rfl⟩
 rw [←hB] at HP0
 clear hB
 generalize ((((((((w7.setCell ⟨p,0,none⟩ (.bool S2.lv)).setCell ⟨p,1,none⟩ (.int .i64 S2.lo)).setCell ⟨p,2,none⟩ (.int .i64 S2.hi)).setCell ⟨p,3,none⟩ (.slice D2.A S2.cs.length D2.c)).setCell ⟨p,4,none⟩ (.int .i64 S2.hd)).setCell ⟨p,5,none⟩ (.int .i64 S2.sz)).setCell ⟨p,6,none⟩ (.slice D2.A2 S2.l.length D2.c2)).setCell ⟨p,7,none⟩ (.slice D2.A3 S2.h.length D2.c3))=w8 at*
 go_loopw [18,53] (fun lv i wr=>∃ (k:Nat) (S:Sh) (D:Sx),k≤T.length∧i=.int .i64 k∧Hid (S=(V1.grs dl (T.take k)).sh)∧Hid (TkAt w p r B S D A2 c2 T lv (lzF dl (T.take k)) wr)) (fun _ i _=>T.length - (intOf i).toNat)
 case atStart=>exact ⟨0,S2,D2,Nat.zero_le _,rfl,HS2,HP0⟩
 case round=>
  clear HP0 HS2
  obtain ⟨k,S,D,hk,rfl,HS,HP⟩:=hrel
  by_cases hlt:k<T.length
  ·obtain ⟨b,o,rfl,hbl,c0',c1',c2',c3',c4',c5',c6'⟩:=HP.out.l0.at_ hlt
   obtain ⟨A5,cc5,rfl⟩:=own_form HP.out.own
   obtain ⟨S',hS'⟩:∃ S',S' = (V1.grs dl (T.take (k+1))).sh:=⟨_,rfl⟩
   have HSN:=Lh (HTN.out k hlt S S' HS.out hS')
   have HSK:=Lh hS'
   have HLK:=Lh (lz_succ (dl:=dl) hlt)
   have HKL:=Lh (show (lzF dl (T.take k)).length≤12 by unfold lzF;have:=HTL.out;simp;omega)
   generalize lzF dl (T.take k)=K at*
   generalize T[k]=X at*
   have HPA:=Lh (HP.out.below ((Below.refl _ _).alloc (Nat.le_refl _) (.cells #[.int .i64 X.id,.int .i64 X.rt,.int .i64 X.ep,.int .i64 X.ct,.int .i64 X.gn,.int .i64 X.st,.string X.bd] 56)))
   have HMX:=Lh (MBx.start wr X 56)
   have HDV:=Lh (fun W=>deliver_any X W)
   generalize dlE X=xe at*
   obtain ⟨N,hN⟩:∃ N,N=dlM X:=⟨_,rfl⟩
   rw [←hN] at HSN HLK HDV
   have HGR:=Lh (fun D W (q:SAt w p S D W)=>lgrant_any D.A2 S.l.length D.c2 S.l D.A3 S.h.length D.c3 S.h ⟨N,dl⟩ W q.sr.el q.sr.dl)
   clear hN hS' HTN
   generalize grL S.l S.h ⟨N,dl⟩=gl at*
   generalize grH S.l S.h ⟨N,dl⟩=gh at*
   generalize grE S.l S.h ⟨N,dl⟩=ge' at*
   have HRO:=Lh (fun q e=>(HP.out.own.lt q e).2)
   have HOF:=Lh (show SOff S D wr.heap.size from HP.out.sa.sr.offs (Nat.le_refl _))
   have HBB:=Lh (show B≤wr.heap.size∧¬wr.heap.size=p∧¬p=wr.heap.size by have h1:=HP.out.ne;omega)
   go_wp2_with fail
   refine (HDV.out _).mono ?_
   rintro e w9 ⟨rfl,hb⟩
   have HP9:=Lh (HPA.out.below hb)
   have HM9:=Lh (HMX.out.up hb)
   have HP10:=Lh (show TkAt w p r B S D (some ⟨b,o,none⟩) c2 T (.slice A5 K.length cc5) K (((((((w9.setCell ⟨wr.heap.size,0,none⟩ (.int .i64 N.id)).setCell ⟨wr.heap.size,1,none⟩ (.int .i64 N.rt)).setCell ⟨wr.heap.size,2,none⟩ (.int .i64 N.ep)).setCell ⟨wr.heap.size,3,none⟩ (.int .i64 N.ct)).setCell ⟨wr.heap.size,4,none⟩ (.int .i64 N.gn)).setCell ⟨wr.heap.size,5,none⟩ (.int .i64 N.st)).setCell ⟨wr.heap.size,6,none⟩ (.string N.bd)) from HP9.out.put7 HBB.out.1 (fun x e=>by have:=HRO.out x e;omega) HOF.out N)
   have HM10:=Lh (show MBx (((((((w9.setCell ⟨wr.heap.size,0,none⟩ (.int .i64 N.id)).setCell ⟨wr.heap.size,1,none⟩ (.int .i64 N.rt)).setCell ⟨wr.heap.size,2,none⟩ (.int .i64 N.ep)).setCell ⟨wr.heap.size,3,none⟩ (.int .i64 N.ct)).setCell ⟨wr.heap.size,4,none⟩ (.int .i64 N.gn)).setCell ⟨wr.heap.size,5,none⟩ (.int .i64 N.st)).setCell ⟨wr.heap.size,6,none⟩ (.string N.bd)) wr.heap.size N from HM9.out.put7 N)
   clear hb
   obtain ⟨v0,v1,v2,v3,v4,v5,v6⟩:=HM9.out.m7
   have vl:=HM9.out.lt
   have vf':=HM9.out.fr
   have e0:=vf' 0
   have e1:=vf' 1
   have e2:=vf' 2
   have e3:=vf' 3
   have e4:=vf' 4
   have e5:=vf' 5
   have e6:=vf' 6
   clear vf'
   obtain ⟨⟨t0,t1,t2,t3,t4,t5,t6,t7,tl⟩,⟨f0,f1,f2,f3,f4,f5,f6,f7⟩⟩:=HP9.out.sa.s8.all
   obtain ⟨-,hyp,hpy⟩:=HBB.out
   go_wp2_with fail
   clear t0 t1 t2 t3 t4 t5 t6 t7 tl f0 f1 f2 f3 f4 f5 f6 f7 v0 v1 v2 v3 v4 v5 v6 vl e0 e1 e2 e3 e4 e5 e6
   generalize (((((((w9.setCell ⟨wr.heap.size,0,none⟩ (.int .i64 N.id)).setCell ⟨wr.heap.size,1,none⟩ (.int .i64 N.rt)).setCell ⟨wr.heap.size,2,none⟩ (.int .i64 N.ep)).setCell ⟨wr.heap.size,3,none⟩ (.int .i64 N.ct)).setCell ⟨wr.heap.size,4,none⟩ (.int .i64 N.gn)).setCell ⟨wr.heap.size,5,none⟩ (.int .i64 N.st)).setCell ⟨wr.heap.size,6,none⟩ (.string N.bd))=w10 at*
   refine (HGR.out _ _ HP10.out.sa).mono ?_
   rintro e w11 ⟨A8,c8,A9,c9,rfl,n8,n9,h8,h9,hb⟩
   have HP11:=Lh (HP10.out.below hb)
   have HM11:=Lh (HM10.out.up hb)
   have HP12:=Lh (show TkAt w p r B S' ⟨D.A,D.c,A8,c8,A9,c9⟩ (some ⟨b,o,none⟩) c2 T (.slice A5 K.length cc5) K ((w11.setCell ⟨p,6,none⟩ (.slice A8 gl.length c8)).setCell ⟨p,7,none⟩ (.slice A9 gh.length c9)) from by
    rw [HSN.out]
    exact HP11.out.setTab h8 h9 n8 n9 HP10.out.ne.2.2 (fun q e=>(HP10.out.own.lt q e).2))
   have HP13:=Lh (HP12.out.below ((Below.refl _ _).alloc (Nat.le_refl _) (.cells #[.int .i64 N.id,.int .i64 N.rt,.int .i64 N.ep,.int .i64 N.ct,.int .i64 N.gn,.int .i64 N.st,.string N.bd,.int .i64 dl] 58)))
   have HCX:=Lh (lease_row ((w11.setCell ⟨p,6,none⟩ (.slice A8 gl.length c8)).setCell ⟨p,7,none⟩ (.slice A9 gh.length c9)) ⟨N,dl⟩ 58)
   clear n8 n9 h8 h9 hb
   obtain ⟨⟨t0,t1,t2,t3,t4,t5,t6,t7,tl⟩,⟨f0,f1,f2,f3,f4,f5,f6,f7⟩⟩:=HP11.out.sa.s8.all
   obtain ⟨v0,v1,v2,v3,v4,v5,v6⟩:=HM11.out.m7
   have vl:=HM11.out.lt
   go_wp2_with (at_builtin;refine wpList_append_lies _ rfl (.tmp 71) (.tmp 75) 28 rfl B 58 i0 _ 8 72 Tryz.underlying28 HI.out HZ.out.1 HZ.out.2.1 HZ.out.2.2 rfl (by omega) (.slice A5 K.length cc5) K.length (ecs K) rfl HP13.out.own ⟨w11.heap.size,0,none⟩ 1 1 (Le.l ⟨N,dl⟩) rfl (by simp [Le.l_len]) (fun j u hu=>by have:=HCX.out j u hu;simpa using this) (Le.l_one ⟨N,dl⟩) (by omega) (by have:=HKL.out;unfold maxLen;omega) (by have:=HKL.out;omega) HP13.out.ne.2.2 _ rfl ?_;intro g cap w14 hown hgrow hat hglt)
   have HP14:=Lh (HP13.out.app (ecs_end hown) hgrow (fun q e=>by
    rcases hat with h | h
    ·left;rw [h];simpa [Value.ownBlock] using e
    ·right;simp only [Value.ownBlock] at e;injection e with e;rw [←e,h];exact Nat.le_refl _))
   clear hown hgrow hat hglt t0 t1 t2 t3 t4 t5 t6 t7 tl f0 f1 f2 f3 f4 f5 f6 f7 v0 v1 v2 v3 v4 v5 v6 vl
   go_wp2
   go_roundw
   case rel=>exact ⟨k+1,S',⟨D.A,D.c,A8,c8,A9,c9⟩,by omega,by go_num,HSK,by rw [HLK.out];exact HP14⟩
   case measure=>simp [intOf];omega
  ·obtain rfl:k=T.length:=by omega
   obtain ⟨A5,cc5,rfl⟩:=own_form HP.out.own
   have HF:=Lh (show SLe w (V1.grs dl T).sh (lzF dl T) 0 (.returned (.tuple #[sv S D,.slice A5 (lzF dl (T.take T.length)).length cc5,.int .i64 0])) (set8s wr r S D) from by
    rw [←HGZ0.out,←HS.out,←HLZ0.out]
    exact tk_out HP.out)
   obtain ⟨⟨t0,t1,t2,t3,t4,t5,t6,t7,tl⟩,⟨f0,f1,f2,f3,f4,f5,f6,f7⟩⟩:=HP.out.sa.s8.all
   obtain ⟨⟨r0,r1,r2,r3,r4,r5,r6,r7,rl⟩,⟨g0,g1,g2,g3,g4,g5,g6,g7⟩⟩:=HP.out.rs.all
   obtain ⟨hpr,hrp,-,-⟩:=HPR.out
   go_wp2
   exact bodyPost_ret (v:=.tuple #[sv S D,.slice A5 (lzF dl (T.take T.length)).length cc5,.int .i64 0]) (by simp only [results,Tryz.results15];go_simp <;> rfl) rfl HF.out
end Go.Proofs.YtncgbldcjfbknaaGreat
/- Plain: what an append onto nil, onto what a call owns leaves. -/
namespace Go.Proofs.YtncgbldcjfbknaaGreat
open Go.RowKit
set_option linter.unusedVariables false
theorem below_nil {W W' : World} {v:Value} (hg:W.grownBy W' v.ownBlock) (hv:v.ownBlock=none):Below W.heap.size W W':=(Below.refl _ _).grown hg (Nat.le_refl _) (fun k hk=>by rw [hv] at hk;cases hk)
theorem below_own {W0 W W' : World} {n size:Nat} {e:TypeId} {v:Value} {xs:List Value} (hb:Below W0.heap.size W0 W) (ho:W.ownsRow W0.heap.size e size v n xs) (hg:W.grownBy W' v.ownBlock):Below W0.heap.size W0 W':=hb.grown hg hb.size (fun k hk=>(ho.lt k hk).1)
end Go.Proofs.YtncgbldcjfbknaaGreat
namespace Go.Proofs.YtncgbldcjfbknaaGreat
open Go.RowKit
set_option linter.unusedVariables false
theorem DlV.of_own {w W:World} {base:Nat} {l:List Du} {v:Value} (ho:W.ownsRow base 127 2 v l.length (dcs l)) (hb:w.heap.size≤base) (hB:Below w.heap.size w W):DlV w l (.returned v) W:=by
 obtain ⟨A',c',rfl⟩:=own_form ho
 exact ⟨A',c',rfl,nwv_of (nwv_own ho hb),Dl.of_own ho,hB⟩
set_option maxHeartbeats 4000000 in
set_option maxRecDepth 20000 in
theorem rswap_any (A:Option Addr) (n c i k:Nat) (l:List Du) (w:World) (hv:Dl w w.heap.size (.slice A n c) l) (hi:i<n) (hk:k<n) (hik:i≠k) (h100:n≤100) :
  Calls Tryz.prog 219 #[.slice A n c,.int .i64 i,.int .i64 k] w (DlV w (swp l i k)):=by
 obtain ⟨rfl,hm1,hm2⟩:=hv.len
 obtain ⟨i0,hi0,hz0⟩:=Option.map_eq_some_iff.1 info_due
 simp only [Prod.mk.injEq] at hz0
 have HI:=Lh hi0
 have HZ:=Lh hz0
 have HRD:=Lh hv.rd
 have HV:=Lh hv
 have hi' : (i:Int)<(l.length:Int):=by omega
 have hk' : (k:Int)<(l.length:Int):=by omega
 obtain ⟨b,o,rfl,hb,c0,c1⟩:=hv.atg hi
 obtain ⟨b',o',e',hb',d0,d1⟩:=hv.atg hk
 injection e' with e'
 injection e' with e1 e2
 subst e1;subst e2
 clear hb' hv hi0 hz0
 obtain ⟨X,hX⟩:∃ X,ge l i=X:=⟨_,rfl⟩
 obtain ⟨Y,hY⟩:∃ Y,ge l k=Y:=⟨_,rfl⟩
 have HX:=Lh hX
 have HY:=Lh hY
 rw [hX] at c0 c1
 rw [hY] at d0 d1
 have HB:=Lh hb
 have HC:=Lh (And.intro (And.intro c0 c1) (And.intro d0 d1))
 clear hX hY c0 c1 d0 d1 hb
 go_enter Tryz.func219,Tryz.ntmps219
 go_wp2_with (at_builtin;refine wpList_append_rd _ rfl (.const (.slice none 0 0)) (.tmp 8) 29 rfl w.heap.size 127 i0 _ 2 16 Tryz.underlying29 HI.out HZ.out.1 HZ.out.2.1 HZ.out.2.2 rfl (by omega) (.slice none 0 0) 0 [] rfl (World.ownsRow_nil _ _ _ _) w.heap.size (some ⟨b,o,none⟩) l.length c (dcs l) rfl HRD.out (dcs_one l) (by unfold maxLen;omega) (by omega) (Nat.le_refl _) ?_;intro v1 w1 hown1 hg1 hat1)
 rw [Nat.zero_add,List.nil_append] at hown1
 have HB1:=Lh (show Below w.heap.size w w1 from (Below.refl w.heap.size w).grown hg1 (Nat.le_refl _) (fun k e=>by simp [Value.ownBlock] at e))
 obtain ⟨q,cap,rfl,hq,hle,hmx,hrow⟩:=own_row hown1 (by omega)
 have HR:=Lh (RwAt.mk (w:=w1) hrow rfl (Below.refl q w1))
 have HQ:=Lh hq
 have HM:=Lh (And.intro hle hmx)
 have hbq:¬(b=q):=by have:=HB.out;omega
 have hqb:¬(q=b):=fun e=>hbq e.symm
 clear hown1 hg1 hat1 hq hle hmx hrow
 obtain ⟨y0,y1,f0,f1,hql⟩:=HR.out.row.at_ hi
 obtain ⟨z0,z1,e0,e1,-⟩:=HR.out.row.at_ hk
 rw [HX.out] at y0 y1
 rw [HY.out] at z0 z1
 have c0:=(HB1.out.cell (p:=⟨b,o+i*2,none⟩) HB.out).trans HC.out.1.1
 have c1:=(HB1.out.cell (p:=⟨b,o+i*2+1,none⟩) HB.out).trans HC.out.1.2
 have d0:=(HB1.out.cell (p:=⟨b,o+k*2,none⟩) HB.out).trans HC.out.2.1
 have d1:=(HB1.out.cell (p:=⟨b,o+k*2+1,none⟩) HB.out).trans HC.out.2.2
 have n1:¬(i=k):=hik
 have n2:¬(k=i):=fun e=>hik e.symm
 go_region
 clear c0 c1 d0 d1 y0 y1 z0 z1 f0 f1 e0 e1 hql
 have HR2:=Lh ((HR.out.swap hi hk).drew)
 rw [HX.out,HY.out] at HR2
 generalize ((((w1.setCell ⟨q,i*2,none⟩ (.int .i64 Y.dl)).setCell ⟨q,i*2+1,none⟩ (.int .i64 Y.id)).setCell ⟨q,k*2,none⟩ (.int .i64 X.dl)).setCell ⟨q,k*2+1,none⟩ (.int .i64 X.id)).drew=w2 at*
 have HF:=Lh (show DlV w (swp l i k) (.returned (.slice (some ⟨q,0,none⟩) l.length cap)) w2 from ⟨some ⟨q,0,none⟩,cap,by rw [swp_len],nw_some HQ.out,by rw [swp_len];exact HR2.out.row.dl' HR2.out.len HM.out.1 HM.out.2,HB1.out.trans (HR2.out.bel.mono HQ.out)⟩)
 go_wp2
 go_ret
 exact HF.out
structure LsAt (w:World) (lo:Nat) (v:Value) (l:List Du) (W:World):Prop where
 dl:Dl W W.heap.size v l
 nw:NwV lo v
 bel:Below w.heap.size w W
theorem LsAt.below {w W W' : World} {lo:Nat} {v:Value} {l:List Du} (h:LsAt w lo v l W) (hb:Below W.heap.size W W'):LsAt w lo v l W':=⟨h.dl.up hb,h.nw,h.bel.trans (hb.mono h.bel.size)⟩
theorem LsAt.drewN {w W:World} {lo:Nat} {v:Value} {l:List Du} (h:LsAt w lo v l W) (k:Nat):LsAt w lo v l (W.drewN k):=⟨h.dl,h.nw,⟨h.bel.os,h.bel.tape,h.bel.output,h.bel.size,h.bel.block⟩⟩
def LvP (w:World) (lo:Nat) (l:List Du) (e:Ending) (w' : World):Prop:=∃ v,e=.returned v∧LsAt w lo v l w'
set_option maxHeartbeats 4000000 in
set_option maxRecDepth 20000 in
theorem rup_any (lo:Nat) (A:Option Addr) (n c i:Nat) (l:List Du) (w:World) (hv:Dl w w.heap.size (.slice A n c) l) (hlo:lo≤w.heap.size) (hnw:Nw lo A) (hi:i<n) (h100:n≤100) :
  Calls Tryz.prog 207 #[.slice A n c,.int .i64 i] w (LvP w lo (upF l i)):=by
 obtain ⟨rfl,hm1,hm2⟩:=hv.len
 have H:=Lh (show LsAt w lo (.slice A l.length c) l w from ⟨hv,nwv_mk hnw,Below.refl _ _⟩)
 have HLO:=Lh hlo
 have hi100:(i:Int)≤100:=by omega
 have HN:=Lh (show l.length≤100 from h100)
 obtain ⟨n,hn⟩:∃ n,n=l.length:=⟨_,rfl⟩
 rw [←hn] at H HN hi ⊢
 have HLN:=Lh hn
 clear hv hm1 hm2 hnw hlo h100 hn
 go_enter Tryz.func207,Tryz.ntmps207
 go_wp2
 go_loopw [0,1] (fun hv iv wr=>∃ (j:Nat) (A' : Option Addr) (c' : Nat) (g:List Du),hv=.slice A' n c'∧iv=.int .i64 j∧j≤i∧g.length=n∧upF g j=upF l i∧LsAt w lo (.slice A' n c') g wr) (fun _ iv _=>(intOf iv).toNat)
 case atStart=>exact ⟨i,A,c,l,rfl,rfl,Nat.le_refl _,HLN.out.symm,rfl,H.out⟩
 case round=>
  obtain ⟨j,A',c',g,rfl,rfl,hji,hgn,hu,hla⟩:=hrel
  have HL:=Lh hla
  have HU:=Lh hu
  have HGN:=Lh hgn
  clear hla hu hgn
  by_cases hj0:0<j
  ·obtain ⟨p,hp⟩:∃ p,p=(j - 1) / 2:=⟨_,rfl⟩
   have HPP:=Lh hp
   have hjn:j<n:=by omega
   have hpn:p<n:=by omega
   have hw1:IntKind.i64.wrap ((j:Int) - 1)=(j:Int) - 1:=IntWalk.i64_in _ (by omega)
   have hq1:((j:Int) - 1).tdiv 2=(p:Int):=by rw [Int.tdiv_eq_ediv_of_nonneg (by omega)];omega
   have hw2:IntKind.i64.wrap (p:Int)=(p:Int):=IntWalk.i64_in _ (by omega)
   clear hp
   obtain ⟨b,o,rfl,hb,c0,c1⟩:=HL.out.dl.atg (k:=j) (by rw [HGN.out];exact hjn)
   obtain ⟨b',o',e',hb',d0,d1⟩:=HL.out.dl.atg (k:=p) (by rw [HGN.out];exact hpn)
   injection e' with e'
   injection e' with e1 e2
   subst e1;subst e2
   clear hb'
   obtain ⟨X,hX⟩:∃ X,ge g j=X:=⟨_,rfl⟩
   obtain ⟨Y,hY⟩:∃ Y,ge g p=Y:=⟨_,rfl⟩
   have HX:=Lh hX
   have HY:=Lh hY
   rw [hX] at c0 c1
   rw [hY] at d0 d1
   clear hX hY
   have HF:=Lh (fun w1=>rbef_any X Y w1)
   have HSA:=Lh (show wr.drew.cell? ⟨b,o+j*2,none⟩=some (.int .i64 X.dl)∧wr.drew.cell? ⟨b,o+j*2+1,none⟩=some (.int .i64 X.id)∧wr.drew.cell? ⟨b,o+p*2,none⟩=some (.int .i64 Y.dl)∧wr.drew.cell? ⟨b,o+p*2+1,none⟩=some (.int .i64 Y.id) from ⟨c0,c1,d0,d1⟩)
   have HSC:=Lh (fun w1 (hb1:Below wr.drew.heap.size wr.drew w1)=>show (w1.cell? ⟨b,o+j*2,none⟩=some (.int .i64 X.dl)∧w1.cell? ⟨b,o+j*2+1,none⟩=some (.int .i64 X.id)∧w1.cell? ⟨b,o+p*2,none⟩=some (.int .i64 Y.dl)∧w1.cell? ⟨b,o+p*2+1,none⟩=some (.int .i64 Y.id))∧LsAt w lo (.slice (some ⟨b,o,none⟩) n c') g w1 from ⟨⟨(hb1.cell (p:=⟨b,o+j*2,none⟩) hb).trans c0,(hb1.cell (p:=⟨b,o+j*2+1,none⟩) hb).trans c1,(hb1.cell (p:=⟨b,o+p*2,none⟩) hb).trans d0,(hb1.cell (p:=⟨b,o+p*2+1,none⟩) hb).trans d1⟩,HL.out.below (drew_bel hb1)⟩)
   have hj0' : (0:Int)<(j:Int):=by omega
   have hjn' : (j:Int)<(n:Int):=by omega
   have hpn' : (p:Int)<(n:Int):=by omega
   have hgd:decide ((0:Int)<(j:Int))=true:=decide_eq_true hj0'
   clear hb
   cases hbf:bef X Y with
   | true=>
    have HSW:=Lh (fun w1 hv=>rswap_any (some ⟨b,o,none⟩) n c' j p g w1 hv hjn hpn (by have:=HPP.out;omega) HN.out)
    have HUU:=Lh (show upF (swp g j p) p=upF l i by
     have hb2:bef (ge g j) (ge g ((j - 1) / 2))=true:=by rw [←HPP.out,HX.out,HY.out];exact hbf
     rw [HPP.out,←HU.out,upF_step hj0 hb2])
    rw [hbf] at HF
    clear hbf
    go_wp2
    go_region_held3 (fun W=>W.cell? ⟨b,o+j*2,none⟩=some (.int .i64 X.dl)∧W.cell? ⟨b,o+j*2+1,none⟩=some (.int .i64 X.id)∧W.cell? ⟨b,o+p*2,none⟩=some (.int .i64 Y.dl)∧W.cell? ⟨b,o+p*2+1,none⟩=some (.int .i64 Y.id))
     (first | with_reducible exact HSA.out | with_reducible exact HSB.out)
     ((go_at_call 168;(with_reducible refine (HF.out _).mono ?_);rintro e w1 ⟨rfl,hb1⟩;obtain ⟨hs,hbb⟩:=HSC.out _ hb1;have HSB:=Lh hs;have HL1:=Lh hbb;clear hb1 hs hbb))
    clear c0 c1 d0 d1
    go_wp2_with fail
    refine (HSW.out _ HL1.out.dl).mono ?_
    rintro e w2 ⟨A2,c2,rfl,hnw2,hl2,hb2⟩
    have hsl:(swp g j p).length=n:=by rw [swp_len];exact HGN.out
    rw [hsl] at hl2 ⊢
    have HL2:=Lh (show LsAt w lo (.slice A2 n c2) (swp g j p) w2 from ⟨hl2,nwv_mk (nw_low hnw2 (Nat.le_trans HLO.out HL1.out.bel.size)),HL1.out.bel.trans (hb2.mono HL1.out.bel.size)⟩)
    have HSL:=Lh hsl
    have HPJ:=Lh (show p<j by have:=HPP.out;omega)
    clear hnw2 hl2 hb2 hsl
    go_wp2
    go_roundw
    case rel=>exact ⟨p,A2,c2,swp g j p,rfl,rfl,by have:=HPJ.out;omega,HSL.out,HUU.out,HL2.out⟩
    case measure=>have:=HPJ.out;simp [intOf];omega
   | false=>
    have HUU:=Lh (show upF l i=g by
     have hb2:bef (ge g j) (ge g ((j - 1) / 2))=false:=by rw [←HPP.out,HX.out,HY.out];exact hbf
     rw [←HU.out,upF_stop hb2])
    rw [hbf] at HF
    clear hbf
    go_wp2
    go_region_held3 (fun W=>W.cell? ⟨b,o+j*2,none⟩=some (.int .i64 X.dl)∧W.cell? ⟨b,o+j*2+1,none⟩=some (.int .i64 X.id)∧W.cell? ⟨b,o+p*2,none⟩=some (.int .i64 Y.dl)∧W.cell? ⟨b,o+p*2+1,none⟩=some (.int .i64 Y.id))
     (first | with_reducible exact HSA.out | with_reducible exact HSB.out)
     ((go_at_call 168;(with_reducible refine (HF.out _).mono ?_);rintro e w1 ⟨rfl,hb1⟩;obtain ⟨hs,hbb⟩:=HSC.out _ hb1;have HSB:=Lh hs;have HL1:=Lh hbb;clear hb1 hs hbb))
    clear c0 c1 d0 d1 hw1 hq1 hw2
    go_wp2
    go_ret
    exact ⟨_,rfl,by rw [HUU.out];exact HL1.out⟩
  ·obtain rfl:j=0:=by omega
   have HUU:=Lh (show upF l i=g by rw [←HU.out,upF_zero])
   go_wp2
   go_quiet (fail)
   go_wp2
   go_ret
   exact ⟨_,rfl,by rw [HUU.out];exact HL.out.drewN _⟩
set_option maxHeartbeats 8000000 in
set_option maxRecDepth 20000 in
theorem rpush5_ok (A:Option Addr) (n c:Nat) (l:List Du) (d:Du) (w:World) (hv:Dl w w.heap.size (.slice A n c) l) (h0:hpuE l d=0) :
  Calls Tryz.prog 181 #[.slice A n c,d.v] w (DlE w (hpu l d) 0):=by
 obtain ⟨rfl,hm1,hm2⟩:=hv.len
 have HB:=Lh ((Below.refl w.heap.size w).alloc (Nat.le_refl _) (.cells #[.int .i64 d.dl,.int .i64 d.id] 127))
 have HV0:=Lh ((hv.alloc (Nat.le_refl _) (.cells #[.int .i64 d.dl,.int .i64 d.id] 127)).more (show w.heap.size≤(w.alloc (.cells #[.int .i64 d.dl,.int .i64 d.id] 127)).heap.size by simp))
 have HD0:=Lh (D2.start w d 127)
 have HV:=Lh hv
 have HVA:=Lh (fun w1 hv=>rvalid5_any A l.length c l w1 hv)
 have HO:=Lh (fun w1=>rsound_any d w1)
 have HF:=Lh (fun w1 (hv:Dl w1 w1.heap.size (.slice A l.length c) l)=>rix5_any A l.length c l d.id w1 _ hv)
 obtain ⟨hva,hsn,hl12,hid⟩:=hpuE_zero h0
 have hix:ixD l d.id = -1:=ixD_neg (fun h=>by obtain ⟨x,hx,e⟩:=(ixD_ge _ _).1 h;exact hid x hx e)
 rw [hva] at HVA
 rw [hsn] at HO
 rw [hix] at HF
 have HUP:=Lh (fun lo g cap w1 hd hlo hn=>rup_any lo (some ⟨g,0,none⟩) (l.length+1) cap l.length (l++[d]) w1 hd hlo hn (by omega) (by omega))
 have HL12:=Lh hl12
 have hl100:(l.length:Int)≤100:=by omega
 have h12' : ((l.length:Int)==12)=false:=by simp;omega
 obtain ⟨i0,hi0,hz0⟩:=Option.map_eq_some_iff.1 info_due
 simp only [Prod.mk.injEq] at hz0
 have HI:=Lh hi0
 have HZ:=Lh hz0
 clear hv hm1 hm2 h0 hva hsn hl12 hid hix hi0 hz0
 go_enter Tryz.func181,Tryz.ntmps181
 go_wp2_with fail
 obtain ⟨p,hp⟩:∃ p,p=w.heap.size:=⟨_,rfl⟩
 have HPP:=Lh hp
 rw [←hp] at HD0 ⊢
 clear hp
 refine (HVA.out _ HV0.out).mono ?_
 rintro e w1 ⟨rfl,hb⟩
 have HB1:=Lh (HB.out.trans (hb.mono HB.out.size))
 have HD1:=Lh (HD0.out.below hb (by have:=HPP.out;simp;omega))
 obtain ⟨c0,c1⟩:=HD1.out
 have HPL:=Lh (World.block_lt_of_cell? w1 ⟨p,0,none⟩ c0)
 clear hb
 go_wp2_with fail
 refine (HO.out _).mono ?_
 rintro e w2 ⟨rfl,hb⟩
 have HB2:=Lh (HB1.out.trans (hb.mono HB1.out.size))
 have HD2:=Lh (HD1.out.below hb HPL.out)
 have HPL2:=Lh (Nat.lt_of_lt_of_le HPL.out hb.size)
 clear hb c0 c1
 obtain ⟨c0,c1⟩:=HD2.out
 go_wp2_with fail
 refine (HF.out _ (HV.out.up HB2.out)).mono ?_
 rintro e w3 ⟨rfl,rfl⟩
 have HS0:=Lh (show D2 w2.drew p d from HD2.out)
 have HS1:=Lh (HD2.out.below (W':=(w2.alloc (.cells #[.int .i64 d.dl,.int .i64 d.id] 127)).drew) (((Below.refl w2.heap.size w2).alloc (Nat.le_refl _) _).drew) HPL2.out)
 have HA0:=Lh (show Rd w2.drew w2.drew.heap.size 2 A l.length (dcs l) from (HV.out.up HB2.out.drew).rd)
 have HA1:=Lh (show Rd (w2.alloc (.cells #[.int .i64 d.dl,.int .i64 d.id] 127)).drew (w2.alloc (.cells #[.int .i64 d.dl,.int .i64 d.id] 127)).drew.heap.size 2 A l.length (dcs l) from (HV.out.up ((HB2.out.alloc HB2.out.size _).drew)).rd)
 have HP0:=Lh (fun w3 v (ho:w3.ownsRow w2.drew.heap.size 127 2 v (0+l.length) ([]++dcs l)) (hg:w2.drew.grownBy w3 (Value.ownBlock (.slice none 0 0)))=>push_pre0 (w:=w) (w1:=w2) (w2:=w3) (l:=l) (d:=d) (p:=p) (v:=v) HB2.out HPL2.out HS0.out (by rw [Nat.zero_add,List.nil_append] at ho;exact ho) ((Below.refl _ w2.drew).grown hg (Nat.le_refl _) (fun k e=>by simp [Value.ownBlock] at e)))
 have HP1:=Lh (fun w3 v (ho:w3.ownsRow (w2.alloc (.cells #[.int .i64 d.dl,.int .i64 d.id] 127)).drew.heap.size 127 2 v (0+l.length) ([]++dcs l)) (hg:(w2.alloc (.cells #[.int .i64 d.dl,.int .i64 d.id] 127)).drew.grownBy w3 (Value.ownBlock (.slice none 0 0)))=>push_pre1 (w:=w) (w1:=w2) (w2:=w3) (l:=l) (d:=d) (p:=p) (v:=v) HB2.out HPL2.out HS1.out (by rw [Nat.zero_add,List.nil_append] at ho;exact ho) ((Below.refl _ _).grown hg (Nat.le_refl _) (fun k e=>by simp [Value.ownBlock] at e)))
 have hgd:¬((0:Int) ≤ -1):=by decide
 go_wp2_with fail
 go_region_held3 (fun W=>W.cell? ⟨p,0,none⟩=some (.int .i64 d.dl)∧W.cell? ⟨p,1,none⟩=some (.int .i64 d.id))
  (first | with_reducible exact HS0.out | with_reducible exact HS1.out | with_reducible exact HS2.out | with_reducible exact HS3.out | with_reducible exact HS4.out | with_reducible exact HS5.out)
  (first
  | (refine step_append_lies _ (by rfl) _ _ _ (by rfl) w2.heap.size 127 i0 _ 2 16 Tryz.underlying29 HI.out HZ.out.1 HZ.out.2.1 HZ.out.2.2 rfl (by omega) v4 l.length (dcs l) (by rfl) HOW.out ⟨w4.heap.size,0,none⟩ 1 1 d.l (by rfl) (by simp [Du.l_len]) HN.out (du_one d) (by omega) (by have:=HL12.out;unfold maxLen;omega) (by have:=HL12.out;omega) HBS.out _ rfl ?_;intro g1 cap1 w5 hown1 hgrow1 hat1 hlt1;have HFN:=Lh (push_end HBF.out HOW.out HB2.out.size hown1 hgrow1);have HS4:=Lh (HS3.out.grown HOW.out HPL2.out HBS.out hgrow1);have HDL:=Lh (HFN.out.1.dl' (by simp) HFN.out.2.2.1 HFN.out.2.2.2.1);clear hown1 hgrow1 hat1 hlt1)
  | (refine step_append_lies _ (by rfl) _ _ _ (by rfl) w2.heap.size 127 i0 _ 2 16 Tryz.underlying29 HI.out HZ.out.1 HZ.out.2.1 HZ.out.2.2 rfl (by omega) v4 l.length (dcs l) (by rfl) HOW.out ⟨w2.heap.size,0,none⟩ 1 1 d.l (by rfl) (by simp [Du.l_len]) HN.out (du_one d) (by omega) (by have:=HL12.out;unfold maxLen;omega) (by have:=HL12.out;omega) HBS.out _ rfl ?_;intro g1 cap1 w5 hown1 hgrow1 hat1 hlt1;have HFN:=Lh (push_end HBF.out HOW.out HB2.out.size hown1 hgrow1);have HS4:=Lh (HS3.out.grown HOW.out HPL2.out HBS.out hgrow1);have HDL:=Lh (HFN.out.1.dl' (by simp) HFN.out.2.2.1 HFN.out.2.2.2.1);clear hown1 hgrow1 hat1 hlt1)
  | (refine step_append_rd _ (by rfl) _ _ _ (by rfl) _ 127 i0 _ 2 16 Tryz.underlying29 HI.out HZ.out.1 HZ.out.2.1 HZ.out.2.2 rfl (by omega) (.slice none 0 0) 0 [] (by rfl) (World.ownsRow_nil _ _ _ _) _ A l.length c (dcs l) (by rfl) HA0.out (dcs_one l) (by have:=HL12.out;unfold maxLen;omega) (by have:=HL12.out;omega) (Nat.le_refl _) ?_;intro v4 w4 hown4 hgrow4 hat4;obtain ⟨hs2,hs3,ho3,hbs,hbf,hn⟩:=HP0.out _ _ hown4 hgrow4;have HS2:=Lh hs2;have HS3:=Lh hs3;have HOW:=Lh ho3;have HBS:=Lh hbs;have HBF:=Lh hbf;have HN:=Lh hn;clear hown4 hgrow4 hat4 hs2 hs3 ho3 hbs hbf hn)
  | (refine step_append_rd _ (by rfl) _ _ _ (by rfl) _ 127 i0 _ 2 16 Tryz.underlying29 HI.out HZ.out.1 HZ.out.2.1 HZ.out.2.2 rfl (by omega) (.slice none 0 0) 0 [] (by rfl) (World.ownsRow_nil _ _ _ _) _ A l.length c (dcs l) (by rfl) HA1.out (dcs_one l) (by have:=HL12.out;unfold maxLen;omega) (by have:=HL12.out;omega) (Nat.le_refl _) ?_;intro v4 w4 hown4 hgrow4 hat4;obtain ⟨hs3,ho3,hbs,hbf,hn⟩:=HP1.out _ _ hown4 hgrow4;have HS3:=Lh hs3;have HOW:=Lh ho3;have HBS:=Lh hbs;have HBF:=Lh hbf;have HN:=Lh hn;clear hown4 hgrow4 hat4 hs3 ho3 hbs hbf hn)
  | (go_at_call 207;(with_reducible refine (HUP.out w.heap.size g1 cap1 w5 HDL.out HFN.out.2.2.2.2.size (nw_some HFN.out.2.1)).mono ?_);rintro e w6 ⟨v6,rfl,hla⟩;have HLA:=Lh hla;have HS5:=Lh (HS4.out.below hla.bel (World.block_lt_of_cell? w5 ⟨p,0,none⟩ HS4.out.1));clear hla))
 all_goals
  obtain ⟨A6,c6,hv6,_,_⟩:=HLA.out.dl.form
  subst hv6
  have HNW:=Lh (nwv_of HLA.out.nw)
  have HD6:=Lh HLA.out.dl
  have HB6:=Lh (HFN.out.2.2.2.2.trans (HLA.out.bel.mono HFN.out.2.2.2.2.size))
  have hpf:upF (l++[d]) l.length=hpu l d:=rfl
  rw [hpf] at HD6 ⊢
  clear hpf
  go_wp2
  exact bodyPost_ret (v:=.tuple #[.slice A6 (hpu l d).length c6,.int .i64 0]) (by simp only [results,Tryz.results181];go_simp <;> rfl) rfl ⟨A6,c6,rfl,HNW.out,HD6.out,HB6.out⟩
set_option maxHeartbeats 4000000 in
theorem rpush5_any (A:Option Addr) (n c:Nat) (l:List Du) (d:Du) (w:World) (hv:Dl w w.heap.size (.slice A n c) l) :
  Calls Tryz.prog 181 #[.slice A n c,d.v] w (DlE w (puR l d) (hpuE l d)):=by
 by_cases h00:hpuE l d=0
 ·rw [h00,show puR l d=hpu l d from if_pos h00]
  exact rpush5_ok A n c l d w hv h00
 ·have HC:=Lh (show puR l d=[] from if_neg h00)
  obtain ⟨rfl,hm1,hm2⟩:=hv.len
  have HB:=Lh ((Below.refl w.heap.size w).alloc (Nat.le_refl _) (.cells #[.int .i64 d.dl,.int .i64 d.id] 127))
  have HV0:=Lh ((hv.alloc (Nat.le_refl _) (.cells #[.int .i64 d.dl,.int .i64 d.id] 127)).more (show w.heap.size≤(w.alloc (.cells #[.int .i64 d.dl,.int .i64 d.id] 127)).heap.size by simp))
  have HD0:=Lh (D2.start w d 127)
  have HV:=Lh hv
  have HVA:=Lh (fun w1 hv=>rvalid5_any A l.length c l w1 hv)
  have HO:=Lh (fun w1=>rsound_any d w1)
  have HF:=Lh (fun w1 (hv:Dl w1 w1.heap.size (.slice A l.length c) l)=>rix5_any A l.length c l d.id w1 _ hv)
  clear hv hm1 hm2
  by_cases h0:vaF l=0
  ·rw [h0] at HVA
   have hl:=(vaF_zero h0).1
   have hpu:hpuE l d=if snd d=false then 1 else if l.length=12 then 3 else if 0≤ixD l d.id then 10 else 0:=by
    unfold hpuE;rw [if_neg (by simpa using h0)]
   clear h0
   cases hs:snd d with
   | false=>
    have hR:hpuE l d=1:=by rw [hpu,if_pos hs]
    rw [hs] at HO
    rw [hR]
    clear hpu hs hR h00
    go_enter Tryz.func181,Tryz.ntmps181
    go_wp2_with fail
    refine (HVA.out _ HV0.out).mono ?_
    rintro e w1 ⟨rfl,hb⟩
    have HB1:=Lh (HB.out.trans (hb.mono HB.out.size))
    obtain ⟨c0,c1⟩:=HD0.out.below hb (by simp)
    clear hb
    go_wp2_with fail
    refine (HO.out _).mono ?_
    rintro e w2 ⟨rfl,hb⟩
    have HB2:=Lh (HB1.out.trans (hb.mono HB1.out.size))
    clear hb c0 c1
    go_wp2
    exact bodyPost_ret (v:=.tuple #[.slice none 0 0,.int .i64 1]) (by simp only [results,Tryz.results181];go_simp <;> rfl) rfl ⟨none,0,by rw [HC.out];rfl,nw_none,by rw [HC.out];exact Dl.nil,HB2.out⟩
   | true=>
    rw [hs] at HO
    by_cases h12:l.length=12
    ·have hR:hpuE l d=3:=by rw [hpu,if_neg (by simp [hs]),if_pos h12]
     have h12' : ((l.length:Int)==12)=true:=by simp;omega
     rw [hR]
     clear hpu hs hR h00 h12
     go_enter Tryz.func181,Tryz.ntmps181
     go_wp2_with fail
     refine (HVA.out _ HV0.out).mono ?_
     rintro e w1 ⟨rfl,hb⟩
     have HB1:=Lh (HB.out.trans (hb.mono HB.out.size))
     obtain ⟨c0,c1⟩:=HD0.out.below hb (by simp)
     clear hb
     go_wp2_with fail
     refine (HO.out _).mono ?_
     rintro e w2 ⟨rfl,hb⟩
     have HB2:=Lh (HB1.out.trans (hb.mono HB1.out.size))
     clear hb c0 c1
     go_wp2
     exact bodyPost_ret (v:=.tuple #[.slice none 0 0,.int .i64 3]) (by simp only [results,Tryz.results181];go_simp <;> rfl) rfl ⟨none,0,by rw [HC.out];rfl,nw_none,by rw [HC.out];exact Dl.nil,HB2.out⟩
    ·have h12' : ((l.length:Int)==12)=false:=by simp;omega
     have hge:0≤ixD l d.id:=Decidable.byContradiction fun hx=>h00 (by rw [hpu,if_neg (by simp [hs]),if_neg h12,if_neg hx])
     have hR:hpuE l d=10:=by rw [hpu,if_neg (by simp [hs]),if_neg h12,if_pos hge]
     rw [hR]
     clear hpu hs hR h00 h12
     generalize ixD l d.id=r at*
     go_enter Tryz.func181,Tryz.ntmps181
     go_wp2_with fail
     refine (HVA.out _ HV0.out).mono ?_
     rintro e w1 ⟨rfl,hb⟩
     have HB1:=Lh (HB.out.trans (hb.mono HB.out.size))
     have HD1:=Lh (HD0.out.below hb (by simp))
     obtain ⟨c0,c1⟩:=HD1.out
     have HPL:=Lh (World.block_lt_of_cell? w1 ⟨w.heap.size,0,none⟩ c0)
     clear hb
     go_wp2_with fail
     refine (HO.out _).mono ?_
     rintro e w2 ⟨rfl,hb⟩
     have HB2:=Lh (HB1.out.trans (hb.mono HB1.out.size))
     clear c0 c1
     obtain ⟨c0,c1⟩:=HD1.out.below hb HPL.out
     clear hb
     go_wp2_with fail
     refine (HF.out _ (HV.out.up HB2.out)).mono ?_
     rintro e w3 ⟨rfl,rfl⟩
     clear c0 c1
     go_wp2
     exact bodyPost_ret (v:=.tuple #[.slice none 0 0,.int .i64 10]) (by simp only [results,Tryz.results181];go_simp <;> rfl) rfl ⟨none,0,by rw [HC.out];rfl,nw_none,by rw [HC.out];exact Dl.nil,HB2.out⟩
  ·have hR:hpuE l d=vaF l:=by unfold hpuE;rw [if_pos h0]
   have hne:(vaF l != 0)=true:=bne_iff_ne.2 h0
   rw [hR]
   generalize vaF l=x at*
   clear h0 hR h00
   go_enter Tryz.func181,Tryz.ntmps181
   go_wp2_with fail
   refine (HVA.out _ HV0.out).mono ?_
   rintro e w1 ⟨rfl,hb⟩
   have HB1:=Lh (HB.out.trans (hb.mono HB.out.size))
   clear hb
   go_wp2
   exact bodyPost_ret (v:=.tuple #[.slice none 0 0,.int .i64 x]) (by simp only [results,Tryz.results181];go_simp <;> rfl) rfl ⟨none,0,by rw [HC.out];rfl,nw_none,by rw [HC.out];exact Dl.nil,HB1.out⟩
structure GrV (w:World) (p q r:Nat) (A:Option Addr) (c:Nat) (l:List Le) (A2:Option Addr) (c2:Nat) (h:List Du) (X:Le) (W:World):Prop where
 va:VaA w p A c l A2 c2 h W
 mq:W.cell? ⟨q,0,none⟩=some (.int .i64 X.m.id)∧W.cell? ⟨q,1,none⟩=some (.int .i64 X.m.rt)∧W.cell? ⟨q,2,none⟩=some (.int .i64 X.m.ep)∧W.cell? ⟨q,3,none⟩=some (.int .i64 X.m.ct)∧W.cell? ⟨q,4,none⟩=some (.int .i64 X.m.gn)∧W.cell? ⟨q,5,none⟩=some (.int .i64 X.m.st)∧W.cell? ⟨q,6,none⟩=some (.string X.m.bd)∧q<W.heap.size
 rt:RT W r none 0 0 none 0 0
 ne:w.heap.size≤p∧p<q∧q<r
section
variable {w W W' : World} {p q r c c2:Nat} {A A2:Option Addr} {l:List Le} {h:List Du} {X:Le}
theorem GrV.below (k:GrV w p q r A c l A2 c2 h X W) (hb:Below W.heap.size W W'):GrV w p q r A c l A2 c2 h X W':=by
 obtain ⟨m0,m1,m2,m3,m4,m5,m6,ml⟩:=k.mq
 exact ⟨k.va.below hb,⟨(hb.cell (p:=⟨q,0,none⟩) ml).trans m0,(hb.cell (p:=⟨q,1,none⟩) ml).trans m1,(hb.cell (p:=⟨q,2,none⟩) ml).trans m2,(hb.cell (p:=⟨q,3,none⟩) ml).trans m3,(hb.cell (p:=⟨q,4,none⟩) ml).trans m4,(hb.cell (p:=⟨q,5,none⟩) ml).trans m5,(hb.cell (p:=⟨q,6,none⟩) ml).trans m6,Nat.lt_of_lt_of_le ml hb.size⟩,k.rt.below hb k.rt.lt,k.ne⟩
theorem GrV.start (hv:El w w.heap.size (.slice A l.length c) l) (hd:Dl w w.heap.size (.slice A2 h.length c2) h) (X:Le):GrV w w.heap.size (w.heap.size+1) (w.heap.size+1+1) A c l A2 c2 h X (((w.alloc (.cells #[.slice A l.length c,.slice A2 h.length c2] 31)).alloc (.cells #[.int .i64 X.m.id,.int .i64 X.m.rt,.int .i64 X.m.ep,.int .i64 X.m.ct,.int .i64 X.m.gn,.int .i64 X.m.st,.string X.m.bd] 56)).alloc (.cells #[.slice none 0 0,.slice none 0 0] 31)):=by
 have e2:((w.alloc (.cells #[.slice A l.length c,.slice A2 h.length c2] 31)).alloc (.cells #[.int .i64 X.m.id,.int .i64 X.m.rt,.int .i64 X.m.ep,.int .i64 X.m.ct,.int .i64 X.m.gn,.int .i64 X.m.st,.string X.m.bd] 56)).heap.size=w.heap.size+1+1:=by simp
 have k1:=RT.start ((w.alloc (.cells #[.slice A l.length c,.slice A2 h.length c2] 31)).alloc (.cells #[.int .i64 X.m.id,.int .i64 X.m.rt,.int .i64 X.m.ep,.int .i64 X.m.ct,.int .i64 X.m.gn,.int .i64 X.m.st,.string X.m.bd] 56)) none 0 0 none 0 0 31
 rw [e2] at k1
 exact ⟨((VaA.start 31 hv hd).alloc _).alloc _,⟨by simp [go_sem],by simp [go_sem],by simp [go_sem],by simp [go_sem],by simp [go_sem],by simp [go_sem],by simp [go_sem],by simp⟩,k1,Nat.le_refl _,Nat.lt_succ_self _,Nat.lt_succ_self _⟩
end
theorem grE_vf {l:List Le} {h:List Du} {x:Le} (h1:tbV l h=0) (h2:vf x.m≠0):grE l h x=vf x.m:=by unfold grE;rw [if_neg (by simpa using h1),if_pos h2]
theorem grE_7 {l:List Le} {h:List Du} {x:Le} (h1:tbV l h=0) (h2:vf x.m=0) (h3:x.m.gn=0):grE l h x=7:=by unfold grE;rw [if_neg (by simpa using h1),if_neg (by simpa using h2),if_pos h3]
theorem grE_1 {l:List Le} {h:List Du} {x:Le} (h1:tbV l h=0) (h2:vf x.m=0) (h3:¬x.m.gn=0) (h4:x.dl<0∨1073741824<x.dl):grE l h x=1:=by unfold grE;rw [if_neg (by simpa using h1),if_neg (by simpa using h2),if_neg h3,if_pos h4]
theorem grE_3 {l:List Le} {h:List Du} {x:Le} (h1:tbV l h=0) (h2:vf x.m=0) (h3:¬x.m.gn=0) (h4:¬(x.dl<0∨1073741824<x.dl)) (h5:l.length=12):grE l h x=3:=by unfold grE;rw [if_neg (by simpa using h1),if_neg (by simpa using h2),if_neg h3,if_neg h4,if_pos h5]
theorem grE_10 {l:List Le} {h:List Du} {x:Le} (h1:tbV l h=0) (h2:vf x.m=0) (h3:¬x.m.gn=0) (h4:¬(x.dl<0∨1073741824<x.dl)) (h5:¬l.length=12) (h6:0≤kFi Le.id l x.id):grE l h x=10:=by unfold grE;rw [if_neg (by simpa using h1),if_neg (by simpa using h2),if_neg h3,if_neg h4,if_neg h5,if_pos h6]
theorem grE_0 {l:List Le} {h:List Du} {x:Le} (h1:tbV l h=0) (h2:vf x.m=0) (h3:¬x.m.gn=0) (h4:¬(x.dl<0∨1073741824<x.dl)) (h5:¬l.length=12) (h6:¬0≤kFi Le.id l x.id):grE l h x=0:=by unfold grE;rw [if_neg (by simpa using h1),if_neg (by simpa using h2),if_neg h3,if_neg h4,if_neg h5,if_neg h6]
set_option maxHeartbeats 8000000 in
set_option maxRecDepth 20000 in
theorem rtgrant_any (A:Option Addr) (n c:Nat) (l:List Le) (A2:Option Addr) (n2 c2:Nat) (h:List Du) (X:Le) (w:World) (hv:El w w.heap.size (.slice A n c) l) (hd:Dl w w.heap.size (.slice A2 n2 c2) h) :
  Calls Tryz.prog 137 #[tv A n c A2 n2 c2,X.m.v,.int .i64 X.dl] w (TE w (grL l h X) (grH l h X) (grE l h X)):=by
 obtain ⟨rfl,hm1,hm2⟩:=hv.len
 obtain ⟨rfl,hm3,hm4⟩:=hd.len
 have H0:=Lh (GrV.start hv hd X)
 have HW:=Lh hv
 have HV:=Lh (fun p W (k:VaA w p A c l A2 c2 h W)=>rtvalid_any A l.length c l A2 h.length c2 h W k.el k.dl)
 have HM:=Lh (fun W=>rvalidate_any X.m W)
 have HFI:=Lh (fun p W (k:VaA w p A c l A2 c2 h W)=>rtfind_any A l.length c l A2 h.length c2 X.m.id W k.el)
 clear hv hd hm1 hm2 hm3 hm4
 by_cases h1:tbV l h=0
 ·have hl12:l.length≤12:=((tbV_iff l h).1 h1).len
  rw [h1] at HV
  by_cases h2:vf X.m=0
  ·rw [h2] at HM
   by_cases h3:X.m.gn=0
   ·have he:=grE_7 h1 h2 h3
    have HN:=Lh (grE_ne (l:=l) (h:=h) (x:=X) (by rw [he];decide))
    rw [HN.out.1,HN.out.2,he]
    have H3G:=Lh h3
    clear he h1 h2 h3 HN
    go_enter Tryz.func137,Tryz.ntmps137
    obtain ⟨t0,t1,tl⟩:=H0.out.va.tb
    go_wp2_with fail
    clear t0 t1 tl
    obtain ⟨p,hp⟩:∃ p,p=w.heap.size:=⟨_,rfl⟩
    obtain ⟨q,hq⟩:∃ q,q=w.heap.size+1:=⟨_,rfl⟩
    obtain ⟨r,hr⟩:∃ r,r=w.heap.size+1+1:=⟨_,rfl⟩
    rw [←hr,←hq,←hp] at H0 ⊢
    clear hp hq hr
    generalize (((w.alloc (.cells #[.slice A l.length c,.slice A2 h.length c2] 31)).alloc (.cells #[.int .i64 X.m.id,.int .i64 X.m.rt,.int .i64 X.m.ep,.int .i64 X.m.ct,.int .i64 X.m.gn,.int .i64 X.m.st,.string X.m.bd] 56)).alloc (.cells #[.slice none 0 0,.slice none 0 0] 31))=w1 at*
    refine (HV.out _ _ H0.out.va).mono ?_
    rintro e w2 ⟨rfl,hb⟩
    have H1:=Lh (H0.out.below hb)
    clear hb
    obtain ⟨m0,m1,m2,m3,m4,m5,m6,ml⟩:=H1.out.mq
    go_wp2_with fail
    clear m0 m1 m2 m3 m4 m5 m6 ml
    refine (HM.out _).mono ?_
    rintro e w3 ⟨rfl,hb⟩
    have H2:=Lh (H1.out.below hb)
    clear hb
    obtain ⟨m0,m1,m2,m3,m4,m5,m6,ml⟩:=H2.out.mq
    obtain ⟨t0,t1,tl⟩:=H2.out.va.tb
    obtain ⟨r0,r1,f0,f1,rl⟩:=H2.out.rt
    have HB:=Lh (show Below w.heap.size w (set2 w3 r (.slice none 0 0) (.slice none 0 0)) from set2_below H2.out.va.bel (by have:=H2.out.ne;omega))
    rw [H3G.out] at m4
    go_wp2
    exact bodyPost_ret (v:=.tuple #[.agg #[.slice none 0 0,.slice none 0 0],.int .i64 7]) (by simp only [results,Tryz.results137];go_simp <;> rfl) rfl (te_nil rfl rfl rfl HB.out)
   ·have h3' : (X.m.gn==0)=false:=by simpa using h3
    by_cases h4:X.dl<0∨1073741824<X.dl
    ·have he:=grE_1 h1 h2 h3 h4
     have HN:=Lh (grE_ne (l:=l) (h:=h) (x:=X) (by rw [he];decide))
     rw [HN.out.1,HN.out.2,he]
     clear he h1 h2 h3 HN
     by_cases h41:X.dl<0
     ·clear h4
      go_enter Tryz.func137,Tryz.ntmps137
      obtain ⟨t0,t1,tl⟩:=H0.out.va.tb
      go_wp2_with fail
      clear t0 t1 tl
      obtain ⟨p,hp⟩:∃ p,p=w.heap.size:=⟨_,rfl⟩
      obtain ⟨q,hq⟩:∃ q,q=w.heap.size+1:=⟨_,rfl⟩
      obtain ⟨r,hr⟩:∃ r,r=w.heap.size+1+1:=⟨_,rfl⟩
      rw [←hr,←hq,←hp] at H0 ⊢
      clear hp hq hr
      generalize (((w.alloc (.cells #[.slice A l.length c,.slice A2 h.length c2] 31)).alloc (.cells #[.int .i64 X.m.id,.int .i64 X.m.rt,.int .i64 X.m.ep,.int .i64 X.m.ct,.int .i64 X.m.gn,.int .i64 X.m.st,.string X.m.bd] 56)).alloc (.cells #[.slice none 0 0,.slice none 0 0] 31))=w1 at*
      refine (HV.out _ _ H0.out.va).mono ?_
      rintro e w2 ⟨rfl,hb⟩
      have H1:=Lh (H0.out.below hb)
      clear hb
      obtain ⟨m0,m1,m2,m3,m4,m5,m6,ml⟩:=H1.out.mq
      go_wp2_with fail
      clear m0 m1 m2 m3 m4 m5 m6 ml
      refine (HM.out _).mono ?_
      rintro e w3 ⟨rfl,hb⟩
      have H2:=Lh (H1.out.below hb)
      clear hb
      obtain ⟨m0,m1,m2,m3,m4,m5,m6,ml⟩:=H2.out.mq
      obtain ⟨t0,t1,tl⟩:=H2.out.va.tb
      obtain ⟨r0,r1,f0,f1,rl⟩:=H2.out.rt
      have HB:=Lh (show Below w.heap.size w (set2 w3 r (.slice none 0 0) (.slice none 0 0)) from set2_below H2.out.va.bel (by have:=H2.out.ne;omega))
      go_wp2
      exact bodyPost_ret (v:=.tuple #[.agg #[.slice none 0 0,.slice none 0 0],.int .i64 1]) (by simp only [results,Tryz.results137];go_simp <;> rfl) rfl (te_nil rfl rfl rfl HB.out)
     ·have h42:1073741824<X.dl:=by omega
      clear h4
      go_enter Tryz.func137,Tryz.ntmps137
      obtain ⟨t0,t1,tl⟩:=H0.out.va.tb
      go_wp2_with fail
      clear t0 t1 tl
      obtain ⟨p,hp⟩:∃ p,p=w.heap.size:=⟨_,rfl⟩
      obtain ⟨q,hq⟩:∃ q,q=w.heap.size+1:=⟨_,rfl⟩
      obtain ⟨r,hr⟩:∃ r,r=w.heap.size+1+1:=⟨_,rfl⟩
      rw [←hr,←hq,←hp] at H0 ⊢
      clear hp hq hr
      generalize (((w.alloc (.cells #[.slice A l.length c,.slice A2 h.length c2] 31)).alloc (.cells #[.int .i64 X.m.id,.int .i64 X.m.rt,.int .i64 X.m.ep,.int .i64 X.m.ct,.int .i64 X.m.gn,.int .i64 X.m.st,.string X.m.bd] 56)).alloc (.cells #[.slice none 0 0,.slice none 0 0] 31))=w1 at*
      refine (HV.out _ _ H0.out.va).mono ?_
      rintro e w2 ⟨rfl,hb⟩
      have H1:=Lh (H0.out.below hb)
      clear hb
      obtain ⟨m0,m1,m2,m3,m4,m5,m6,ml⟩:=H1.out.mq
      go_wp2_with fail
      clear m0 m1 m2 m3 m4 m5 m6 ml
      refine (HM.out _).mono ?_
      rintro e w3 ⟨rfl,hb⟩
      have H2:=Lh (H1.out.below hb)
      clear hb
      obtain ⟨m0,m1,m2,m3,m4,m5,m6,ml⟩:=H2.out.mq
      obtain ⟨t0,t1,tl⟩:=H2.out.va.tb
      obtain ⟨r0,r1,f0,f1,rl⟩:=H2.out.rt
      have HB:=Lh (show Below w.heap.size w (set2 w3 r (.slice none 0 0) (.slice none 0 0)) from set2_below H2.out.va.bel (by have:=H2.out.ne;omega))
      go_wp2
      exact bodyPost_ret (v:=.tuple #[.agg #[.slice none 0 0,.slice none 0 0],.int .i64 1]) (by simp only [results,Tryz.results137];go_simp <;> rfl) rfl (te_nil rfl rfl rfl HB.out)
    ·have h41:¬X.dl<0:=by omega
     have h42:¬1073741824<X.dl:=by omega
     by_cases h5:l.length=12
     ·have he:=grE_3 h1 h2 h3 h4 h5
      have HN:=Lh (grE_ne (l:=l) (h:=h) (x:=X) (by rw [he];decide))
      rw [HN.out.1,HN.out.2,he]
      have h5' : ((l.length:Int)==12)=true:=by simp;omega
      clear he h1 h2 h3 h4 h5 HN
      go_enter Tryz.func137,Tryz.ntmps137
      obtain ⟨t0,t1,tl⟩:=H0.out.va.tb
      go_wp2_with fail
      clear t0 t1 tl
      obtain ⟨p,hp⟩:∃ p,p=w.heap.size:=⟨_,rfl⟩
      obtain ⟨q,hq⟩:∃ q,q=w.heap.size+1:=⟨_,rfl⟩
      obtain ⟨r,hr⟩:∃ r,r=w.heap.size+1+1:=⟨_,rfl⟩
      rw [←hr,←hq,←hp] at H0 ⊢
      clear hp hq hr
      generalize (((w.alloc (.cells #[.slice A l.length c,.slice A2 h.length c2] 31)).alloc (.cells #[.int .i64 X.m.id,.int .i64 X.m.rt,.int .i64 X.m.ep,.int .i64 X.m.ct,.int .i64 X.m.gn,.int .i64 X.m.st,.string X.m.bd] 56)).alloc (.cells #[.slice none 0 0,.slice none 0 0] 31))=w1 at*
      refine (HV.out _ _ H0.out.va).mono ?_
      rintro e w2 ⟨rfl,hb⟩
      have H1:=Lh (H0.out.below hb)
      clear hb
      obtain ⟨m0,m1,m2,m3,m4,m5,m6,ml⟩:=H1.out.mq
      go_wp2_with fail
      clear m0 m1 m2 m3 m4 m5 m6 ml
      refine (HM.out _).mono ?_
      rintro e w3 ⟨rfl,hb⟩
      have H2:=Lh (H1.out.below hb)
      clear hb
      obtain ⟨m0,m1,m2,m3,m4,m5,m6,ml⟩:=H2.out.mq
      obtain ⟨t0,t1,tl⟩:=H2.out.va.tb
      obtain ⟨r0,r1,f0,f1,rl⟩:=H2.out.rt
      have HB:=Lh (show Below w.heap.size w (set2 w3 r (.slice none 0 0) (.slice none 0 0)) from set2_below H2.out.va.bel (by have:=H2.out.ne;omega))
      go_wp2
      exact bodyPost_ret (v:=.tuple #[.agg #[.slice none 0 0,.slice none 0 0],.int .i64 3]) (by simp only [results,Tryz.results137];go_simp <;> rfl) rfl (te_nil rfl rfl rfl HB.out)
     ·have h5' : ((l.length:Int)==12)=false:=by simp;omega
      by_cases h6:0≤kFi Le.id l X.id
      ·have he:=grE_10 h1 h2 h3 h4 h5 h6
       have HN:=Lh (grE_ne (l:=l) (h:=h) (x:=X) (by rw [he];decide))
       rw [HN.out.1,HN.out.2,he]
       change 0≤kFi Le.id l X.m.id at h6
       generalize kFi Le.id l X.m.id=y at*
       clear he h1 h2 h3 h4 h5 HN
       go_enter Tryz.func137,Tryz.ntmps137
       obtain ⟨t0,t1,tl⟩:=H0.out.va.tb
       go_wp2_with fail
       clear t0 t1 tl
       obtain ⟨p,hp⟩:∃ p,p=w.heap.size:=⟨_,rfl⟩
       obtain ⟨q,hq⟩:∃ q,q=w.heap.size+1:=⟨_,rfl⟩
       obtain ⟨r,hr⟩:∃ r,r=w.heap.size+1+1:=⟨_,rfl⟩
       rw [←hr,←hq,←hp] at H0 ⊢
       clear hp hq hr
       generalize (((w.alloc (.cells #[.slice A l.length c,.slice A2 h.length c2] 31)).alloc (.cells #[.int .i64 X.m.id,.int .i64 X.m.rt,.int .i64 X.m.ep,.int .i64 X.m.ct,.int .i64 X.m.gn,.int .i64 X.m.st,.string X.m.bd] 56)).alloc (.cells #[.slice none 0 0,.slice none 0 0] 31))=w1 at*
       refine (HV.out _ _ H0.out.va).mono ?_
       rintro e w2 ⟨rfl,hb⟩
       have H1:=Lh (H0.out.below hb)
       clear hb
       obtain ⟨m0,m1,m2,m3,m4,m5,m6,ml⟩:=H1.out.mq
       go_wp2_with fail
       clear m0 m1 m2 m3 m4 m5 m6 ml
       refine (HM.out _).mono ?_
       rintro e w3 ⟨rfl,hb⟩
       have H2:=Lh (H1.out.below hb)
       clear hb
       obtain ⟨m0,m1,m2,m3,m4,m5,m6,ml⟩:=H2.out.mq
       obtain ⟨t0,t1,tl⟩:=H2.out.va.tb
       go_wp2_with fail
       clear m0 m1 m2 m3 m4 m5 m6 ml t0 t1 tl
       refine (HFI.out _ _ H2.out.va).mono ?_
       rintro e w4 ⟨rfl,hb⟩
       have H3:=Lh (H2.out.below hb)
       clear hb
       obtain ⟨r0,r1,f0,f1,rl⟩:=H3.out.rt
       have HB:=Lh (show Below w.heap.size w (set2 w4 r (.slice none 0 0) (.slice none 0 0)) from set2_below H3.out.va.bel (by have:=H3.out.ne;omega))
       go_wp2
       exact bodyPost_ret (v:=.tuple #[.agg #[.slice none 0 0,.slice none 0 0],.int .i64 10]) (by simp only [results,Tryz.results137];go_simp <;> rfl) rfl (te_nil rfl rfl rfl HB.out)
      ·have he:=grE_0 h1 h2 h3 h4 h5 h6
       obtain ⟨t,hH,hL,hl12'⟩:=grE_at he
       have hpe:hpuE h X.du=0:=by rw [←grE_pu h1 (leE_0 h2 h3 h4)];exact he
       have HPU:=Lh (fun p W (k:VaA w p A c l A2 c2 h W)=>show Calls Tryz.prog 181 #[.slice A2 h.length c2,.agg #[.int .i64 X.dl,.int .i64 X.m.id]] W (DlE W (puR h X.du) (hpuE h X.du)) from rpush5_any A2 h.length c2 h X.du W k.dl)
       rw [←hH,hpe] at HPU
       rw [he,hL]
       change ¬0≤kFi Le.id l X.m.id at h6
       change Calls Tryz.prog 137 #[tv A l.length c A2 h.length c2,X.m.v,.int .i64 X.dl] w (TE w (l.take (kAt Le.id l X.m.id)++X::l.drop (kAt Le.id l X.m.id)) (grH l h X) 0)
       have HKH:=Lh (fun (j:Nat) (hj:j≤l.length) (h1:∀ i (hi:i<j),(l[i]'(Nat.lt_of_lt_of_le hi hj)).id<X.m.id) (h2:∀ hk:j<l.length,X.m.id≤l[j].id)=>kAt_hit (key:=Le.id) hj h1 h2)
       obtain ⟨i,hi⟩:∃ i,i=kAt Le.id l X.m.id:=⟨_,rfl⟩
       rw [←hi] at HKH ⊢
       have HKL:=Lh (show i≤l.length by rw [hi];exact kAt_le l _)
       generalize grH l h X=K at*
       have HYN:=Lh h6
       obtain ⟨y,hy⟩:∃ y,y=kFi Le.id l X.m.id:=⟨_,rfl⟩
       rw [←hy] at HFI h6
       have hkc:l.length≤c:=HW.out.len.2.1
       have HL12:=Lh hl12'
       obtain ⟨i0,hi0,hz0⟩:=Option.map_eq_some_iff.1 info_lease
       simp only [Prod.mk.injEq] at hz0
       have HI:=Lh hi0
       have HZ:=Lh hz0
       clear he h1 h2 h3 h4 h5 t hH hL hl12' hpe hi hy hi0 hz0
       go_enter Tryz.func137,Tryz.ntmps137
       obtain ⟨t0,t1,tl⟩:=H0.out.va.tb
       go_wp2_with fail
       clear t0 t1 tl
       obtain ⟨p,hp⟩:∃ p,p=w.heap.size:=⟨_,rfl⟩
       obtain ⟨q,hq⟩:∃ q,q=w.heap.size+1:=⟨_,rfl⟩
       obtain ⟨r,hr⟩:∃ r,r=w.heap.size+1+1:=⟨_,rfl⟩
       rw [←hr,←hq,←hp] at H0 ⊢
       clear hp hq hr
       generalize (((w.alloc (.cells #[.slice A l.length c,.slice A2 h.length c2] 31)).alloc (.cells #[.int .i64 X.m.id,.int .i64 X.m.rt,.int .i64 X.m.ep,.int .i64 X.m.ct,.int .i64 X.m.gn,.int .i64 X.m.st,.string X.m.bd] 56)).alloc (.cells #[.slice none 0 0,.slice none 0 0] 31))=w1 at*
       refine (HV.out _ _ H0.out.va).mono ?_
       rintro e w2 ⟨rfl,hb⟩
       have H1:=Lh (H0.out.below hb)
       clear hb
       obtain ⟨m0,m1,m2,m3,m4,m5,m6,ml⟩:=H1.out.mq
       go_wp2_with fail
       clear m0 m1 m2 m3 m4 m5 m6 ml
       refine (HM.out _).mono ?_
       rintro e w3 ⟨rfl,hb⟩
       have H2:=Lh (H1.out.below hb)
       clear hb
       obtain ⟨m0,m1,m2,m3,m4,m5,m6,ml⟩:=H2.out.mq
       obtain ⟨t0,t1,tl⟩:=H2.out.va.tb
       go_wp2_with fail
       clear m0 m1 m2 m3 m4 m5 m6 ml t0 t1 tl
       refine (HFI.out _ _ H2.out.va).mono ?_
       rintro e w4 ⟨rfl,hb⟩
       have H3:=Lh (H2.out.below hb)
       clear hb
       go_wp2
       go_loopw [10] (fun s10 wr=>∃ j:Nat,s10=.int .i64 j∧j≤l.length∧Hid (∀ i (hi:i<j) (hl:i<l.length),l[i].id<X.m.id)∧Hid (GrV w p q r A c l A2 c2 h X wr)) (fun s10 _=>l.length - (intOf s10).toNat)
       case atStart=>exact ⟨0,rfl,Nat.zero_le _,Lh (fun i hi=>absurd hi (Nat.not_lt_zero _)),H3⟩
       case round=>
        obtain ⟨j,rfl,hj,HLT,HG⟩:=hrel
        obtain ⟨m0,m1,m2,m3,m4,m5,m6,ml⟩:=HG.out.mq
        obtain ⟨t0,t1,tl⟩:=HG.out.va.tb
        by_cases hlt:j<l.length
        ·have hlt' : (j:Int)<(l.length:Int):=by omega
         obtain ⟨b,o,rfl,_⟩:=HG.out.va.el.some_ (by omega)
         obtain ⟨⟨c0,c1,c2',c3,c4,c5,c6,c7⟩,hb⟩:=HG.out.va.el.c8 hlt
         obtain ⟨Y,hY⟩:∃ Y,l[j]=Y:=⟨_,rfl⟩
         rw [hY] at c0
         have HYL:=Lh hY
         clear hY c1 c2' c3 c4 c5 c6 c7 hb m1 m2 m3 m4 m5 m6
         by_cases hle:Y.m.id<X.m.id
         ·have HLT2:=Lh (show ∀ i (hi:i<j+1) (hl:i<l.length),l[i].id<X.m.id from fun i hi hl=>by
           by_cases e:i=j
           ·subst e;rw [HYL.out];exact hle
           ·exact HLT.out i (by omega) hl)
          go_wp2_with fail
          go_quiet (fail)
          go_wp2
          go_roundw
          case rel=>exact ⟨j+1,by go_num,by omega,HLT2,Lh (HG.out.below (below_drewN (Below.refl _ _) _))⟩
          case measure=>simp [intOf];omega
         ·have hij:i=j:=by rw [←HKH.out j hj (fun i hi=>HLT.out i hi _) (fun _=>by rw [HYL.out];exact Int.not_lt.1 hle)]
          go_wp2_with fail
          go_quiet (fail)
          clear c0 HYL
          obtain rfl:i=j:=hij
          have HG2:=Lh (show GrV w p q r (some ⟨b,o,none⟩) c l A2 c2 h X (wr.drewN nq) from HG.out.below (below_drewN (Below.refl _ _) nq))
          go_wp2_with fail
          clear m0 t0 t1 tl ml
          refine (HPU.out _ _ HG2.out.va).mono ?_
          rintro e w5 ⟨A5,c5,rfl,hnw,hl,hb⟩
          have H5:=Lh (HG2.out.below hb)
          have HK:=Lh hl
          have HNW:=Lh hnw
          clear hb hnw hl
          have HNL:=Lh (And.intro HG2.out.rt.lt HG2.out.va.bel.size)
          have HBW:=Lh H5.out.va.bel
          have HSK:=Lh (fun W (hb:Below w5.heap.size w5 W)=>show W.cell? ⟨p,0,none⟩=some (.slice (some ⟨b,o,none⟩) l.length c)∧W.cell? ⟨q,0,none⟩=some (.int .i64 X.m.id)∧W.cell? ⟨q,1,none⟩=some (.int .i64 X.m.rt)∧W.cell? ⟨q,2,none⟩=some (.int .i64 X.m.ep)∧W.cell? ⟨q,3,none⟩=some (.int .i64 X.m.ct)∧W.cell? ⟨q,4,none⟩=some (.int .i64 X.m.gn)∧W.cell? ⟨q,5,none⟩=some (.int .i64 X.m.st)∧W.cell? ⟨q,6,none⟩=some (.string X.m.bd) from by
           have k:=H5.out.below hb
           exact ⟨k.va.tb.1,k.mq.1,k.mq.2.1,k.mq.2.2.1,k.mq.2.2.2.1,k.mq.2.2.2.2.1,k.mq.2.2.2.2.2.1,k.mq.2.2.2.2.2.2.1⟩)
          have HD:=Lh (show Below w5.heap.size w5 w5.drew from (Below.refl _ _).drew)
          have HXa:=Lh (show Below w5.heap.size w5 (w5.alloc (.cells #[.int .i64 X.m.id,.int .i64 X.m.rt,.int .i64 X.m.ep,.int .i64 X.m.ct,.int .i64 X.m.gn,.int .i64 X.m.st,.string X.m.bd,.int .i64 X.dl] 58)) from (Below.refl _ _).alloc (Nat.le_refl _) _)
          have HT0:=Lh (HSK.out w5.drew HD.out)
          have HT1:=Lh (HSK.out (w5.alloc (.cells #[.int .i64 X.m.id,.int .i64 X.m.rt,.int .i64 X.m.ep,.int .i64 X.m.ct,.int .i64 X.m.gn,.int .i64 X.m.st,.string X.m.bd,.int .i64 X.dl] 58)).drew HXa.out.drew)
          have HPA:=Lh (fun w6 v1 (ho:w6.ownsRow w5.drew.heap.size 58 8 v1 (0+i) ([]++ecs (l.take i))) (hg:w5.drew.grownBy w6 (Value.slice none 0 0).ownBlock)=>show (w6.cell? ⟨p,0,none⟩=some (.slice (some ⟨b,o,none⟩) l.length c)∧w6.cell? ⟨q,0,none⟩=some (.int .i64 X.m.id)∧w6.cell? ⟨q,1,none⟩=some (.int .i64 X.m.rt)∧w6.cell? ⟨q,2,none⟩=some (.int .i64 X.m.ep)∧w6.cell? ⟨q,3,none⟩=some (.int .i64 X.m.ct)∧w6.cell? ⟨q,4,none⟩=some (.int .i64 X.m.gn)∧w6.cell? ⟨q,5,none⟩=some (.int .i64 X.m.st)∧w6.cell? ⟨q,6,none⟩=some (.string X.m.bd))∧((w6.alloc (.cells #[.int .i64 X.m.id,.int .i64 X.m.rt,.int .i64 X.m.ep,.int .i64 X.m.ct,.int .i64 X.m.gn,.int .i64 X.m.st,.string X.m.bd,.int .i64 X.dl] 58)).cell? ⟨p,0,none⟩=some (.slice (some ⟨b,o,none⟩) l.length c)∧(w6.alloc (.cells #[.int .i64 X.m.id,.int .i64 X.m.rt,.int .i64 X.m.ep,.int .i64 X.m.ct,.int .i64 X.m.gn,.int .i64 X.m.st,.string X.m.bd,.int .i64 X.dl] 58)).cell? ⟨q,0,none⟩=some (.int .i64 X.m.id)∧(w6.alloc (.cells #[.int .i64 X.m.id,.int .i64 X.m.rt,.int .i64 X.m.ep,.int .i64 X.m.ct,.int .i64 X.m.gn,.int .i64 X.m.st,.string X.m.bd,.int .i64 X.dl] 58)).cell? ⟨q,1,none⟩=some (.int .i64 X.m.rt)∧(w6.alloc (.cells #[.int .i64 X.m.id,.int .i64 X.m.rt,.int .i64 X.m.ep,.int .i64 X.m.ct,.int .i64 X.m.gn,.int .i64 X.m.st,.string X.m.bd,.int .i64 X.dl] 58)).cell? ⟨q,2,none⟩=some (.int .i64 X.m.ep)∧(w6.alloc (.cells #[.int .i64 X.m.id,.int .i64 X.m.rt,.int .i64 X.m.ep,.int .i64 X.m.ct,.int .i64 X.m.gn,.int .i64 X.m.st,.string X.m.bd,.int .i64 X.dl] 58)).cell? ⟨q,3,none⟩=some (.int .i64 X.m.ct)∧(w6.alloc (.cells #[.int .i64 X.m.id,.int .i64 X.m.rt,.int .i64 X.m.ep,.int .i64 X.m.ct,.int .i64 X.m.gn,.int .i64 X.m.st,.string X.m.bd,.int .i64 X.dl] 58)).cell? ⟨q,4,none⟩=some (.int .i64 X.m.gn)∧(w6.alloc (.cells #[.int .i64 X.m.id,.int .i64 X.m.rt,.int .i64 X.m.ep,.int .i64 X.m.ct,.int .i64 X.m.gn,.int .i64 X.m.st,.string X.m.bd,.int .i64 X.dl] 58)).cell? ⟨q,5,none⟩=some (.int .i64 X.m.st)∧(w6.alloc (.cells #[.int .i64 X.m.id,.int .i64 X.m.rt,.int .i64 X.m.ep,.int .i64 X.m.ct,.int .i64 X.m.gn,.int .i64 X.m.st,.string X.m.bd,.int .i64 X.dl] 58)).cell? ⟨q,6,none⟩=some (.string X.m.bd))∧Below w5.heap.size w5 (w6.alloc (.cells #[.int .i64 X.m.id,.int .i64 X.m.rt,.int .i64 X.m.ep,.int .i64 X.m.ct,.int .i64 X.m.gn,.int .i64 X.m.st,.string X.m.bd,.int .i64 X.dl] 58))∧(w6.alloc (.cells #[.int .i64 X.m.id,.int .i64 X.m.rt,.int .i64 X.m.ep,.int .i64 X.m.ct,.int .i64 X.m.gn,.int .i64 X.m.st,.string X.m.bd,.int .i64 X.dl] 58)).ownsRow w5.heap.size 58 8 v1 i (ecs (l.take i))∧Rd (w6.alloc (.cells #[.int .i64 X.m.id,.int .i64 X.m.rt,.int .i64 X.m.ep,.int .i64 X.m.ct,.int .i64 X.m.gn,.int .i64 X.m.st,.string X.m.bd,.int .i64 X.dl] 58)) (w6.alloc (.cells #[.int .i64 X.m.id,.int .i64 X.m.rt,.int .i64 X.m.ep,.int .i64 X.m.ct,.int .i64 X.m.gn,.int .i64 X.m.st,.string X.m.bd,.int .i64 X.dl] 58)).heap.size 8 (some ⟨w6.heap.size,0,none⟩) 1 X.l from by
           have hb:Below w5.heap.size w5 w6:=HD.out.trans (below_nil hg rfl)
           have hb2:=hb.alloc hb.size (.cells #[.int .i64 X.m.id,.int .i64 X.m.rt,.int .i64 X.m.ep,.int .i64 X.m.ct,.int .i64 X.m.gn,.int .i64 X.m.st,.string X.m.bd,.int .i64 X.dl] 58)
           rw [Nat.zero_add,List.nil_append] at ho
           have hf:Rw (w6.alloc (.cells #[.int .i64 X.m.id,.int .i64 X.m.rt,.int .i64 X.m.ep,.int .i64 X.m.ct,.int .i64 X.m.gn,.int .i64 X.m.st,.string X.m.bd,.int .i64 X.dl] 58)) w6.heap.size 58 X.l:=Rw.fresh w6 _ _
           exact ⟨HSK.out _ hb,HSK.out _ hb2,hb2,World.ownsRow.alloc (show w6.ownsRow w5.heap.size 58 8 v1 i (ecs (l.take i)) from ho) _,rfl,fun _=>⟨_,0,rfl,hf.lt,fun j u hu=>by rw [Nat.zero_add];exact hf.cell hu⟩⟩)
          have HPB:=Lh (fun w6 v1 (ho:w6.ownsRow (w5.alloc (.cells #[.int .i64 X.m.id,.int .i64 X.m.rt,.int .i64 X.m.ep,.int .i64 X.m.ct,.int .i64 X.m.gn,.int .i64 X.m.st,.string X.m.bd,.int .i64 X.dl] 58)).drew.heap.size 58 8 v1 (0+i) ([]++ecs (l.take i))) (hg:(w5.alloc (.cells #[.int .i64 X.m.id,.int .i64 X.m.rt,.int .i64 X.m.ep,.int .i64 X.m.ct,.int .i64 X.m.gn,.int .i64 X.m.st,.string X.m.bd,.int .i64 X.dl] 58)).drew.grownBy w6 (Value.slice none 0 0).ownBlock)=>show (w6.cell? ⟨p,0,none⟩=some (.slice (some ⟨b,o,none⟩) l.length c)∧w6.cell? ⟨q,0,none⟩=some (.int .i64 X.m.id)∧w6.cell? ⟨q,1,none⟩=some (.int .i64 X.m.rt)∧w6.cell? ⟨q,2,none⟩=some (.int .i64 X.m.ep)∧w6.cell? ⟨q,3,none⟩=some (.int .i64 X.m.ct)∧w6.cell? ⟨q,4,none⟩=some (.int .i64 X.m.gn)∧w6.cell? ⟨q,5,none⟩=some (.int .i64 X.m.st)∧w6.cell? ⟨q,6,none⟩=some (.string X.m.bd))∧Below w5.heap.size w5 w6∧w6.ownsRow w5.heap.size 58 8 v1 i (ecs (l.take i))∧Rd w6 w6.heap.size 8 (some ⟨w5.heap.size,0,none⟩) 1 X.l from by
           have hb1:Below (w5.alloc (.cells #[.int .i64 X.m.id,.int .i64 X.m.rt,.int .i64 X.m.ep,.int .i64 X.m.ct,.int .i64 X.m.gn,.int .i64 X.m.st,.string X.m.bd,.int .i64 X.dl] 58)).heap.size (w5.alloc (.cells #[.int .i64 X.m.id,.int .i64 X.m.rt,.int .i64 X.m.ep,.int .i64 X.m.ct,.int .i64 X.m.gn,.int .i64 X.m.st,.string X.m.bd,.int .i64 X.dl] 58)) w6:=drew_bel (below_nil hg rfl)
           have hb:Below w5.heap.size w5 w6:=HXa.out.trans (hb1.mono HXa.out.size)
           rw [Nat.zero_add,List.nil_append] at ho
           have hf:Rw w6 w5.heap.size 58 X.l:=(Rw.fresh w5 _ _).below hb1 (by simp)
           exact ⟨HSK.out _ hb,hb,own_low ho (show w5.heap.size≤(w5.alloc (.cells #[.int .i64 X.m.id,.int .i64 X.m.rt,.int .i64 X.m.ep,.int .i64 X.m.ct,.int .i64 X.m.gn,.int .i64 X.m.st,.string X.m.bd,.int .i64 X.dl] 58)).heap.size by simp),rfl,fun _=>⟨_,0,rfl,hf.lt,fun j u hu=>by rw [Nat.zero_add];exact hf.cell hu⟩⟩)
          have HPC:=Lh (fun wx w7 v1 v2 (hbx:Below w5.heap.size w5 wx) (hox:wx.ownsRow w5.heap.size 58 8 v1 i (ecs (l.take i))) (ho:w7.ownsRow w5.heap.size 58 8 v2 (i+1) (ecs (l.take i)++X.l)) (hg:wx.grownBy w7 v1.ownBlock)=>show (w7.cell? ⟨p,0,none⟩=some (.slice (some ⟨b,o,none⟩) l.length c)∧w7.cell? ⟨q,0,none⟩=some (.int .i64 X.m.id)∧w7.cell? ⟨q,1,none⟩=some (.int .i64 X.m.rt)∧w7.cell? ⟨q,2,none⟩=some (.int .i64 X.m.ep)∧w7.cell? ⟨q,3,none⟩=some (.int .i64 X.m.ct)∧w7.cell? ⟨q,4,none⟩=some (.int .i64 X.m.gn)∧w7.cell? ⟨q,5,none⟩=some (.int .i64 X.m.st)∧w7.cell? ⟨q,6,none⟩=some (.string X.m.bd))∧Below w5.heap.size w5 w7∧w7.ownsRow w5.heap.size 58 8 v2 (i+1) (ecs (l.take i)++X.l) from by
           have hb:Below w5.heap.size w5 w7:=below_own hbx hox hg
           exact ⟨HSK.out _ hb,hb,ho⟩)
          have hil:i≤l.length:=hj
          have hcut:=run_eupto (some ⟨b,o,none⟩) l.length c .i64 i (by omega)
          obtain ⟨A',hA',hcut2⟩:=run_ecut (some ⟨b,o,none⟩) l.length c .i64 i (by omega)
          have h1:=HW.out.upto i (by omega)
          have h3:=HW.out.cut i (by omega)
          rw [←hA'] at h3
          have HE1:=Lh h1
          have HE3:=Lh h3
          have hic:(i:Int)≤(c:Int):=by omega
          have hiL:(i:Int)≤(l.length:Int):=by omega
          have HLX:=Lh (show i+1+(l.length - i)=(l.take i++X::l.drop i).length by simp;omega)
          have HEC:=Lh (show ecs (l.take i++X::l.drop i)=(ecs (l.take i)++X.l)++ecs (l.drop i) by rw [ecs_mid,List.append_assoc])
          have HFF:=Lh (fun (w8:World) (A8:Option Addr) (c8:Nat) (ho:w8.ownsRow w5.heap.size 58 8 (.slice A8 (l.take i++X::l.drop i).length c8) (l.take i++X::l.drop i).length (ecs (l.take i++X::l.drop i))) (hb:Below w5.heap.size w5 w8)=>show TE w (l.take i++X::l.drop i) K 0 (.returned (.tuple #[.agg #[.slice A8 (l.take i++X::l.drop i).length c8,.slice A5 K.length c5],.int .i64 0])) (set2 w8 r (.slice A8 (l.take i++X::l.drop i).length c8) (.slice A5 K.length c5)) from by
           have hn:Nw w5.heap.size A8:=nwv_of (nwv_own ho (Nat.le_refl _))
           refine ⟨A8,c8,A5,c5,rfl,nw_low hn HBW.out.size,nw_low HNW.out HNL.out.2,?_,?_,set2_below (HBW.out.trans (hb.mono HBW.out.size)) (by have:=H5.out.ne;omega)⟩
           ·exact ((El.of_own ho).set2 hn H5.out.rt.lt).more (by simp)
           ·exact ((HK.out.below hb).set2 HNW.out HNL.out.1).more (by have:=hb.size;simp;omega))
          generalize (l.take i++X::l.drop i)=LX at*
          clear h1 h3 hA'
          go_wp2_with fail
          go_region_held3 (fun W=>W.cell? ⟨p,0,none⟩=some (.slice (some ⟨b,o,none⟩) l.length c)∧W.cell? ⟨q,0,none⟩=some (.int .i64 X.m.id)∧W.cell? ⟨q,1,none⟩=some (.int .i64 X.m.rt)∧W.cell? ⟨q,2,none⟩=some (.int .i64 X.m.ep)∧W.cell? ⟨q,3,none⟩=some (.int .i64 X.m.ct)∧W.cell? ⟨q,4,none⟩=some (.int .i64 X.m.gn)∧W.cell? ⟨q,5,none⟩=some (.int .i64 X.m.st)∧W.cell? ⟨q,6,none⟩=some (.string X.m.bd))
           (first | with_reducible exact HT0.out | with_reducible exact HT1.out | with_reducible exact HT2.out | with_reducible exact HT3.out | with_reducible exact HT4.out)
           (first
           | (refine step_append_rd _ (by rfl) _ _ _ (by rfl) w5.heap.size 58 i0 _ 8 72 Tryz.underlying28 HI.out HZ.out.1 HZ.out.2.1 HZ.out.2.2 rfl (by omega) v1 i (ecs (l.take i)) (by rfl) HOX.out _ _ 1 1 X.l (by rfl) HRX.out X.l_one (by have:=HL12.out;unfold maxLen;omega) (by have:=HL12.out;omega) HBX.out.size ?_;intro v2 w7 hown2 hg2 hat2;obtain ⟨k1,k2,k3⟩:=HPC.out _ _ _ _ HBX.out HOX.out hown2 hg2;have HT4:=Lh k1;have HB7:=Lh k2;have HO7:=Lh k3;clear hown2 hg2 hat2 k1 k2 k3)
           | (refine step_append_rd _ (by rfl) _ _ _ (by rfl) w5.drew.heap.size 58 i0 _ 8 72 Tryz.underlying28 HI.out HZ.out.1 HZ.out.2.1 HZ.out.2.2 rfl (by omega) (.slice none 0 0) 0 [] (by rfl) (World.ownsRow_nil _ _ _ _) _ (some ⟨b,o,none⟩) i c (ecs (l.take i)) (by rfl) ((HE1.out.below (HBW.out.trans (HD.out.mono HBW.out.size))).rd) (ecs_one _) (by have:=HL12.out;unfold maxLen;omega) (by have:=HL12.out;omega) (Nat.le_refl _) ?_;intro v1 w6 hown1 hg1 hat1;obtain ⟨k1,k2,k3,k4,k5⟩:=HPA.out _ _ hown1 hg1;have HT2:=Lh k1;have HT3:=Lh k2;have HBX:=Lh k3;have HOX:=Lh k4;have HRX:=Lh k5;clear hown1 hg1 hat1 k1 k2 k3 k4 k5)
           | (refine step_append_rd _ (by rfl) _ _ _ (by rfl) (w5.alloc (.cells #[.int .i64 X.m.id,.int .i64 X.m.rt,.int .i64 X.m.ep,.int .i64 X.m.ct,.int .i64 X.m.gn,.int .i64 X.m.st,.string X.m.bd,.int .i64 X.dl] 58)).drew.heap.size 58 i0 _ 8 72 Tryz.underlying28 HI.out HZ.out.1 HZ.out.2.1 HZ.out.2.2 rfl (by omega) (.slice none 0 0) 0 [] (by rfl) (World.ownsRow_nil _ _ _ _) _ (some ⟨b,o,none⟩) i c (ecs (l.take i)) (by rfl) ((HE1.out.below (HBW.out.trans (HXa.out.drew.mono HBW.out.size))).rd) (ecs_one _) (by have:=HL12.out;unfold maxLen;omega) (by have:=HL12.out;omega) (Nat.le_refl _) ?_;intro v1 w6 hown1 hg1 hat1;obtain ⟨k1,k3,k4,k5⟩:=HPB.out _ _ hown1 hg1;have HT3:=Lh k1;have HBX:=Lh k3;have HOX:=Lh k4;have HRX:=Lh k5;clear hown1 hg1 hat1 k1 k3 k4 k5))
          all_goals
           have t7:=(HSK.out w7 HB7.out).1
           go_wp2_with (at_builtin;refine wpList_append_rd _ rfl _ _ 28 rfl w5.heap.size 58 i0 _ 8 72 Tryz.underlying28 HI.out HZ.out.1 HZ.out.2.1 HZ.out.2.2 rfl (by omega) v2 (i+1) (ecs (l.take i)++X.l) rfl HO7.out _ A' (l.length - i) (c - i) (ecs (l.drop i)) rfl ((HE3.out.below (HBW.out.trans (HB7.out.mono HBW.out.size))).rd) (ecs_one _) (by have:=HL12.out;unfold maxLen;omega) (by have:=HL12.out;omega) HB7.out.size ?_;intro v3 w8 hown3 hg3 hat3;rw [HLX.out,←HEC.out] at hown3;obtain ⟨A8,c8,rfl⟩:=own_form hown3;have hb8:=below_own HB7.out HO7.out hg3;have H8:=Lh (H5.out.below hb8);have HF:=Lh (HFF.out _ _ _ hown3 hb8);obtain ⟨r0,r1,f0,f1,rl⟩:=H8.out.rt;clear hown3 hg3 hat3 hb8 t7)
           go_wp2
           exact bodyPost_ret (v:=.tuple #[.agg #[.slice A8 LX.length c8,.slice A5 K.length c5],.int .i64 0]) (by simp only [results,Tryz.results137];go_simp <;> rfl) rfl HF.out
        ·have hij:i=j:=by rw [←HKH.out j hj (fun i hi=>HLT.out i hi _) (fun hk=>absurd hk hlt)]
         clear m1 m2 m3 m4 m5 m6
         go_wp2_with fail
         go_quiet (fail)
         obtain rfl:i=j:=hij
         have HG2:=Lh (show GrV w p q r A c l A2 c2 h X (wr.drewN nq) from HG.out.below (below_drewN (Below.refl _ _) nq))
         go_wp2_with fail
         clear m0 t0 t1 tl ml
         refine (HPU.out _ _ HG2.out.va).mono ?_
         rintro e w5 ⟨A5,c5,rfl,hnw,hl,hb⟩
         have H5:=Lh (HG2.out.below hb)
         have HK:=Lh hl
         have HNW:=Lh hnw
         clear hb hnw hl
         have HNL:=Lh (And.intro HG2.out.rt.lt HG2.out.va.bel.size)
         have HBW:=Lh H5.out.va.bel
         have HSK:=Lh (fun W (hb:Below w5.heap.size w5 W)=>show W.cell? ⟨p,0,none⟩=some (.slice A l.length c)∧W.cell? ⟨q,0,none⟩=some (.int .i64 X.m.id)∧W.cell? ⟨q,1,none⟩=some (.int .i64 X.m.rt)∧W.cell? ⟨q,2,none⟩=some (.int .i64 X.m.ep)∧W.cell? ⟨q,3,none⟩=some (.int .i64 X.m.ct)∧W.cell? ⟨q,4,none⟩=some (.int .i64 X.m.gn)∧W.cell? ⟨q,5,none⟩=some (.int .i64 X.m.st)∧W.cell? ⟨q,6,none⟩=some (.string X.m.bd) from by
          have k:=H5.out.below hb
          exact ⟨k.va.tb.1,k.mq.1,k.mq.2.1,k.mq.2.2.1,k.mq.2.2.2.1,k.mq.2.2.2.2.1,k.mq.2.2.2.2.2.1,k.mq.2.2.2.2.2.2.1⟩)
         have HD:=Lh (show Below w5.heap.size w5 w5.drew from (Below.refl _ _).drew)
         have HXa:=Lh (show Below w5.heap.size w5 (w5.alloc (.cells #[.int .i64 X.m.id,.int .i64 X.m.rt,.int .i64 X.m.ep,.int .i64 X.m.ct,.int .i64 X.m.gn,.int .i64 X.m.st,.string X.m.bd,.int .i64 X.dl] 58)) from (Below.refl _ _).alloc (Nat.le_refl _) _)
         have HT0:=Lh (HSK.out w5.drew HD.out)
         have HT1:=Lh (HSK.out (w5.alloc (.cells #[.int .i64 X.m.id,.int .i64 X.m.rt,.int .i64 X.m.ep,.int .i64 X.m.ct,.int .i64 X.m.gn,.int .i64 X.m.st,.string X.m.bd,.int .i64 X.dl] 58)).drew HXa.out.drew)
         have HPA:=Lh (fun w6 v1 (ho:w6.ownsRow w5.drew.heap.size 58 8 v1 (0+i) ([]++ecs (l.take i))) (hg:w5.drew.grownBy w6 (Value.slice none 0 0).ownBlock)=>show (w6.cell? ⟨p,0,none⟩=some (.slice A l.length c)∧w6.cell? ⟨q,0,none⟩=some (.int .i64 X.m.id)∧w6.cell? ⟨q,1,none⟩=some (.int .i64 X.m.rt)∧w6.cell? ⟨q,2,none⟩=some (.int .i64 X.m.ep)∧w6.cell? ⟨q,3,none⟩=some (.int .i64 X.m.ct)∧w6.cell? ⟨q,4,none⟩=some (.int .i64 X.m.gn)∧w6.cell? ⟨q,5,none⟩=some (.int .i64 X.m.st)∧w6.cell? ⟨q,6,none⟩=some (.string X.m.bd))∧((w6.alloc (.cells #[.int .i64 X.m.id,.int .i64 X.m.rt,.int .i64 X.m.ep,.int .i64 X.m.ct,.int .i64 X.m.gn,.int .i64 X.m.st,.string X.m.bd,.int .i64 X.dl] 58)).cell? ⟨p,0,none⟩=some (.slice A l.length c)∧(w6.alloc (.cells #[.int .i64 X.m.id,.int .i64 X.m.rt,.int .i64 X.m.ep,.int .i64 X.m.ct,.int .i64 X.m.gn,.int .i64 X.m.st,.string X.m.bd,.int .i64 X.dl] 58)).cell? ⟨q,0,none⟩=some (.int .i64 X.m.id)∧(w6.alloc (.cells #[.int .i64 X.m.id,.int .i64 X.m.rt,.int .i64 X.m.ep,.int .i64 X.m.ct,.int .i64 X.m.gn,.int .i64 X.m.st,.string X.m.bd,.int .i64 X.dl] 58)).cell? ⟨q,1,none⟩=some (.int .i64 X.m.rt)∧(w6.alloc (.cells #[.int .i64 X.m.id,.int .i64 X.m.rt,.int .i64 X.m.ep,.int .i64 X.m.ct,.int .i64 X.m.gn,.int .i64 X.m.st,.string X.m.bd,.int .i64 X.dl] 58)).cell? ⟨q,2,none⟩=some (.int .i64 X.m.ep)∧(w6.alloc (.cells #[.int .i64 X.m.id,.int .i64 X.m.rt,.int .i64 X.m.ep,.int .i64 X.m.ct,.int .i64 X.m.gn,.int .i64 X.m.st,.string X.m.bd,.int .i64 X.dl] 58)).cell? ⟨q,3,none⟩=some (.int .i64 X.m.ct)∧(w6.alloc (.cells #[.int .i64 X.m.id,.int .i64 X.m.rt,.int .i64 X.m.ep,.int .i64 X.m.ct,.int .i64 X.m.gn,.int .i64 X.m.st,.string X.m.bd,.int .i64 X.dl] 58)).cell? ⟨q,4,none⟩=some (.int .i64 X.m.gn)∧(w6.alloc (.cells #[.int .i64 X.m.id,.int .i64 X.m.rt,.int .i64 X.m.ep,.int .i64 X.m.ct,.int .i64 X.m.gn,.int .i64 X.m.st,.string X.m.bd,.int .i64 X.dl] 58)).cell? ⟨q,5,none⟩=some (.int .i64 X.m.st)∧(w6.alloc (.cells #[.int .i64 X.m.id,.int .i64 X.m.rt,.int .i64 X.m.ep,.int .i64 X.m.ct,.int .i64 X.m.gn,.int .i64 X.m.st,.string X.m.bd,.int .i64 X.dl] 58)).cell? ⟨q,6,none⟩=some (.string X.m.bd))∧Below w5.heap.size w5 (w6.alloc (.cells #[.int .i64 X.m.id,.int .i64 X.m.rt,.int .i64 X.m.ep,.int .i64 X.m.ct,.int .i64 X.m.gn,.int .i64 X.m.st,.string X.m.bd,.int .i64 X.dl] 58))∧(w6.alloc (.cells #[.int .i64 X.m.id,.int .i64 X.m.rt,.int .i64 X.m.ep,.int .i64 X.m.ct,.int .i64 X.m.gn,.int .i64 X.m.st,.string X.m.bd,.int .i64 X.dl] 58)).ownsRow w5.heap.size 58 8 v1 i (ecs (l.take i))∧Rd (w6.alloc (.cells #[.int .i64 X.m.id,.int .i64 X.m.rt,.int .i64 X.m.ep,.int .i64 X.m.ct,.int .i64 X.m.gn,.int .i64 X.m.st,.string X.m.bd,.int .i64 X.dl] 58)) (w6.alloc (.cells #[.int .i64 X.m.id,.int .i64 X.m.rt,.int .i64 X.m.ep,.int .i64 X.m.ct,.int .i64 X.m.gn,.int .i64 X.m.st,.string X.m.bd,.int .i64 X.dl] 58)).heap.size 8 (some ⟨w6.heap.size,0,none⟩) 1 X.l from by
          have hb:Below w5.heap.size w5 w6:=HD.out.trans (below_nil hg rfl)
          have hb2:=hb.alloc hb.size (.cells #[.int .i64 X.m.id,.int .i64 X.m.rt,.int .i64 X.m.ep,.int .i64 X.m.ct,.int .i64 X.m.gn,.int .i64 X.m.st,.string X.m.bd,.int .i64 X.dl] 58)
          rw [Nat.zero_add,List.nil_append] at ho
          have hf:Rw (w6.alloc (.cells #[.int .i64 X.m.id,.int .i64 X.m.rt,.int .i64 X.m.ep,.int .i64 X.m.ct,.int .i64 X.m.gn,.int .i64 X.m.st,.string X.m.bd,.int .i64 X.dl] 58)) w6.heap.size 58 X.l:=Rw.fresh w6 _ _
          exact ⟨HSK.out _ hb,HSK.out _ hb2,hb2,World.ownsRow.alloc (show w6.ownsRow w5.heap.size 58 8 v1 i (ecs (l.take i)) from ho) _,rfl,fun _=>⟨_,0,rfl,hf.lt,fun j u hu=>by rw [Nat.zero_add];exact hf.cell hu⟩⟩)
         have HPB:=Lh (fun w6 v1 (ho:w6.ownsRow (w5.alloc (.cells #[.int .i64 X.m.id,.int .i64 X.m.rt,.int .i64 X.m.ep,.int .i64 X.m.ct,.int .i64 X.m.gn,.int .i64 X.m.st,.string X.m.bd,.int .i64 X.dl] 58)).drew.heap.size 58 8 v1 (0+i) ([]++ecs (l.take i))) (hg:(w5.alloc (.cells #[.int .i64 X.m.id,.int .i64 X.m.rt,.int .i64 X.m.ep,.int .i64 X.m.ct,.int .i64 X.m.gn,.int .i64 X.m.st,.string X.m.bd,.int .i64 X.dl] 58)).drew.grownBy w6 (Value.slice none 0 0).ownBlock)=>show (w6.cell? ⟨p,0,none⟩=some (.slice A l.length c)∧w6.cell? ⟨q,0,none⟩=some (.int .i64 X.m.id)∧w6.cell? ⟨q,1,none⟩=some (.int .i64 X.m.rt)∧w6.cell? ⟨q,2,none⟩=some (.int .i64 X.m.ep)∧w6.cell? ⟨q,3,none⟩=some (.int .i64 X.m.ct)∧w6.cell? ⟨q,4,none⟩=some (.int .i64 X.m.gn)∧w6.cell? ⟨q,5,none⟩=some (.int .i64 X.m.st)∧w6.cell? ⟨q,6,none⟩=some (.string X.m.bd))∧Below w5.heap.size w5 w6∧w6.ownsRow w5.heap.size 58 8 v1 i (ecs (l.take i))∧Rd w6 w6.heap.size 8 (some ⟨w5.heap.size,0,none⟩) 1 X.l from by
          have hb1:Below (w5.alloc (.cells #[.int .i64 X.m.id,.int .i64 X.m.rt,.int .i64 X.m.ep,.int .i64 X.m.ct,.int .i64 X.m.gn,.int .i64 X.m.st,.string X.m.bd,.int .i64 X.dl] 58)).heap.size (w5.alloc (.cells #[.int .i64 X.m.id,.int .i64 X.m.rt,.int .i64 X.m.ep,.int .i64 X.m.ct,.int .i64 X.m.gn,.int .i64 X.m.st,.string X.m.bd,.int .i64 X.dl] 58)) w6:=drew_bel (below_nil hg rfl)
          have hb:Below w5.heap.size w5 w6:=HXa.out.trans (hb1.mono HXa.out.size)
          rw [Nat.zero_add,List.nil_append] at ho
          have hf:Rw w6 w5.heap.size 58 X.l:=(Rw.fresh w5 _ _).below hb1 (by simp)
          exact ⟨HSK.out _ hb,hb,own_low ho (show w5.heap.size≤(w5.alloc (.cells #[.int .i64 X.m.id,.int .i64 X.m.rt,.int .i64 X.m.ep,.int .i64 X.m.ct,.int .i64 X.m.gn,.int .i64 X.m.st,.string X.m.bd,.int .i64 X.dl] 58)).heap.size by simp),rfl,fun _=>⟨_,0,rfl,hf.lt,fun j u hu=>by rw [Nat.zero_add];exact hf.cell hu⟩⟩)
         have HPC:=Lh (fun wx w7 v1 v2 (hbx:Below w5.heap.size w5 wx) (hox:wx.ownsRow w5.heap.size 58 8 v1 i (ecs (l.take i))) (ho:w7.ownsRow w5.heap.size 58 8 v2 (i+1) (ecs (l.take i)++X.l)) (hg:wx.grownBy w7 v1.ownBlock)=>show (w7.cell? ⟨p,0,none⟩=some (.slice A l.length c)∧w7.cell? ⟨q,0,none⟩=some (.int .i64 X.m.id)∧w7.cell? ⟨q,1,none⟩=some (.int .i64 X.m.rt)∧w7.cell? ⟨q,2,none⟩=some (.int .i64 X.m.ep)∧w7.cell? ⟨q,3,none⟩=some (.int .i64 X.m.ct)∧w7.cell? ⟨q,4,none⟩=some (.int .i64 X.m.gn)∧w7.cell? ⟨q,5,none⟩=some (.int .i64 X.m.st)∧w7.cell? ⟨q,6,none⟩=some (.string X.m.bd))∧Below w5.heap.size w5 w7∧w7.ownsRow w5.heap.size 58 8 v2 (i+1) (ecs (l.take i)++X.l) from by
          have hb:Below w5.heap.size w5 w7:=below_own hbx hox hg
          exact ⟨HSK.out _ hb,hb,ho⟩)
         have hil:i≤l.length:=hj
         have hcut:=run_eupto A l.length c .i64 i (by omega)
         obtain ⟨A',hA',hcut2⟩:=run_ecut A l.length c .i64 i (by omega)
         have h1:=HW.out.upto i (by omega)
         have h3:=HW.out.cut i (by omega)
         rw [←hA'] at h3
         have HE1:=Lh h1
         have HE3:=Lh h3
         have hic:(i:Int)≤(c:Int):=by omega
         have hiL:(i:Int)≤(l.length:Int):=by omega
         have HLX:=Lh (show i+1+(l.length - i)=(l.take i++X::l.drop i).length by simp;omega)
         have HEC:=Lh (show ecs (l.take i++X::l.drop i)=(ecs (l.take i)++X.l)++ecs (l.drop i) by rw [ecs_mid,List.append_assoc])
         have HFF:=Lh (fun (w8:World) (A8:Option Addr) (c8:Nat) (ho:w8.ownsRow w5.heap.size 58 8 (.slice A8 (l.take i++X::l.drop i).length c8) (l.take i++X::l.drop i).length (ecs (l.take i++X::l.drop i))) (hb:Below w5.heap.size w5 w8)=>show TE w (l.take i++X::l.drop i) K 0 (.returned (.tuple #[.agg #[.slice A8 (l.take i++X::l.drop i).length c8,.slice A5 K.length c5],.int .i64 0])) (set2 w8 r (.slice A8 (l.take i++X::l.drop i).length c8) (.slice A5 K.length c5)) from by
          have hn:Nw w5.heap.size A8:=nwv_of (nwv_own ho (Nat.le_refl _))
          refine ⟨A8,c8,A5,c5,rfl,nw_low hn HBW.out.size,nw_low HNW.out HNL.out.2,?_,?_,set2_below (HBW.out.trans (hb.mono HBW.out.size)) (by have:=H5.out.ne;omega)⟩
          ·exact ((El.of_own ho).set2 hn H5.out.rt.lt).more (by simp)
          ·exact ((HK.out.below hb).set2 HNW.out HNL.out.1).more (by have:=hb.size;simp;omega))
         generalize (l.take i++X::l.drop i)=LX at*
         clear h1 h3 hA'
         go_wp2_with fail
         go_region_held3 (fun W=>W.cell? ⟨p,0,none⟩=some (.slice A l.length c)∧W.cell? ⟨q,0,none⟩=some (.int .i64 X.m.id)∧W.cell? ⟨q,1,none⟩=some (.int .i64 X.m.rt)∧W.cell? ⟨q,2,none⟩=some (.int .i64 X.m.ep)∧W.cell? ⟨q,3,none⟩=some (.int .i64 X.m.ct)∧W.cell? ⟨q,4,none⟩=some (.int .i64 X.m.gn)∧W.cell? ⟨q,5,none⟩=some (.int .i64 X.m.st)∧W.cell? ⟨q,6,none⟩=some (.string X.m.bd))
          (first | with_reducible exact HT0.out | with_reducible exact HT1.out | with_reducible exact HT2.out | with_reducible exact HT3.out | with_reducible exact HT4.out)
          (first
          | (refine step_append_rd _ (by rfl) _ _ _ (by rfl) w5.heap.size 58 i0 _ 8 72 Tryz.underlying28 HI.out HZ.out.1 HZ.out.2.1 HZ.out.2.2 rfl (by omega) v1 i (ecs (l.take i)) (by rfl) HOX.out _ _ 1 1 X.l (by rfl) HRX.out X.l_one (by have:=HL12.out;unfold maxLen;omega) (by have:=HL12.out;omega) HBX.out.size ?_;intro v2 w7 hown2 hg2 hat2;obtain ⟨k1,k2,k3⟩:=HPC.out _ _ _ _ HBX.out HOX.out hown2 hg2;have HT4:=Lh k1;have HB7:=Lh k2;have HO7:=Lh k3;clear hown2 hg2 hat2 k1 k2 k3)
          | (refine step_append_rd _ (by rfl) _ _ _ (by rfl) w5.drew.heap.size 58 i0 _ 8 72 Tryz.underlying28 HI.out HZ.out.1 HZ.out.2.1 HZ.out.2.2 rfl (by omega) (.slice none 0 0) 0 [] (by rfl) (World.ownsRow_nil _ _ _ _) _ A i c (ecs (l.take i)) (by rfl) ((HE1.out.below (HBW.out.trans (HD.out.mono HBW.out.size))).rd) (ecs_one _) (by have:=HL12.out;unfold maxLen;omega) (by have:=HL12.out;omega) (Nat.le_refl _) ?_;intro v1 w6 hown1 hg1 hat1;obtain ⟨k1,k2,k3,k4,k5⟩:=HPA.out _ _ hown1 hg1;have HT2:=Lh k1;have HT3:=Lh k2;have HBX:=Lh k3;have HOX:=Lh k4;have HRX:=Lh k5;clear hown1 hg1 hat1 k1 k2 k3 k4 k5)
          | (refine step_append_rd _ (by rfl) _ _ _ (by rfl) (w5.alloc (.cells #[.int .i64 X.m.id,.int .i64 X.m.rt,.int .i64 X.m.ep,.int .i64 X.m.ct,.int .i64 X.m.gn,.int .i64 X.m.st,.string X.m.bd,.int .i64 X.dl] 58)).drew.heap.size 58 i0 _ 8 72 Tryz.underlying28 HI.out HZ.out.1 HZ.out.2.1 HZ.out.2.2 rfl (by omega) (.slice none 0 0) 0 [] (by rfl) (World.ownsRow_nil _ _ _ _) _ A i c (ecs (l.take i)) (by rfl) ((HE1.out.below (HBW.out.trans (HXa.out.drew.mono HBW.out.size))).rd) (ecs_one _) (by have:=HL12.out;unfold maxLen;omega) (by have:=HL12.out;omega) (Nat.le_refl _) ?_;intro v1 w6 hown1 hg1 hat1;obtain ⟨k1,k3,k4,k5⟩:=HPB.out _ _ hown1 hg1;have HT3:=Lh k1;have HBX:=Lh k3;have HOX:=Lh k4;have HRX:=Lh k5;clear hown1 hg1 hat1 k1 k3 k4 k5))
         all_goals
          have t7:=(HSK.out w7 HB7.out).1
          go_wp2_with (at_builtin;refine wpList_append_rd _ rfl _ _ 28 rfl w5.heap.size 58 i0 _ 8 72 Tryz.underlying28 HI.out HZ.out.1 HZ.out.2.1 HZ.out.2.2 rfl (by omega) v2 (i+1) (ecs (l.take i)++X.l) rfl HO7.out _ A' (l.length - i) (c - i) (ecs (l.drop i)) rfl ((HE3.out.below (HBW.out.trans (HB7.out.mono HBW.out.size))).rd) (ecs_one _) (by have:=HL12.out;unfold maxLen;omega) (by have:=HL12.out;omega) HB7.out.size ?_;intro v3 w8 hown3 hg3 hat3;rw [HLX.out,←HEC.out] at hown3;obtain ⟨A8,c8,rfl⟩:=own_form hown3;have hb8:=below_own HB7.out HO7.out hg3;have H8:=Lh (H5.out.below hb8);have HF:=Lh (HFF.out _ _ _ hown3 hb8);obtain ⟨r0,r1,f0,f1,rl⟩:=H8.out.rt;clear hown3 hg3 hat3 hb8 t7)
          go_wp2
          exact bodyPost_ret (v:=.tuple #[.agg #[.slice A8 LX.length c8,.slice A5 K.length c5],.int .i64 0]) (by simp only [results,Tryz.results137];go_simp <;> rfl) rfl HF.out
  ·have he:=grE_vf h1 h2
   have HN:=Lh (grE_ne (l:=l) (h:=h) (x:=X) (by rw [he];exact h2))
   have hne:(vf X.m != 0)=true:=bne_iff_ne.2 h2
   rw [HN.out.1,HN.out.2,he]
   generalize vf X.m=x at*
   clear he h1 h2 HN
   go_enter Tryz.func137,Tryz.ntmps137
   obtain ⟨t0,t1,tl⟩:=H0.out.va.tb
   go_wp2_with fail
   clear t0 t1 tl
   obtain ⟨p,hp⟩:∃ p,p=w.heap.size:=⟨_,rfl⟩
   obtain ⟨q,hq⟩:∃ q,q=w.heap.size+1:=⟨_,rfl⟩
   obtain ⟨r,hr⟩:∃ r,r=w.heap.size+1+1:=⟨_,rfl⟩
   rw [←hr,←hq,←hp] at H0 ⊢
   clear hp hq hr
   generalize (((w.alloc (.cells #[.slice A l.length c,.slice A2 h.length c2] 31)).alloc (.cells #[.int .i64 X.m.id,.int .i64 X.m.rt,.int .i64 X.m.ep,.int .i64 X.m.ct,.int .i64 X.m.gn,.int .i64 X.m.st,.string X.m.bd] 56)).alloc (.cells #[.slice none 0 0,.slice none 0 0] 31))=w1 at*
   refine (HV.out _ _ H0.out.va).mono ?_
   rintro e w2 ⟨rfl,hb⟩
   have H1:=Lh (H0.out.below hb)
   clear hb
   obtain ⟨m0,m1,m2,m3,m4,m5,m6,ml⟩:=H1.out.mq
   go_wp2_with fail
   clear m0 m1 m2 m3 m4 m5 m6 ml
   refine (HM.out _).mono ?_
   rintro e w3 ⟨rfl,hb⟩
   have H2:=Lh (H1.out.below hb)
   clear hb
   obtain ⟨r0,r1,f0,f1,rl⟩:=H2.out.rt
   have HB:=Lh (show Below w.heap.size w (set2 w3 r (.slice none 0 0) (.slice none 0 0)) from set2_below H2.out.va.bel (by have:=H2.out.ne;omega))
   go_wp2
   exact bodyPost_ret (v:=.tuple #[.agg #[.slice none 0 0,.slice none 0 0],.int .i64 x]) (by simp only [results,Tryz.results137];go_simp <;> rfl) rfl (te_nil rfl rfl rfl HB.out)
 ·have he:=grE_tb (x:=X) h1
  have HN:=Lh (grE_ne (l:=l) (h:=h) (x:=X) (by rw [he];exact h1))
  have hne:(tbV l h != 0)=true:=bne_iff_ne.2 h1
  rw [HN.out.1,HN.out.2,he]
  generalize tbV l h=x at*
  clear he h1 HN
  go_enter Tryz.func137,Tryz.ntmps137
  obtain ⟨t0,t1,tl⟩:=H0.out.va.tb
  go_wp2_with fail
  clear t0 t1 tl
  obtain ⟨p,hp⟩:∃ p,p=w.heap.size:=⟨_,rfl⟩
  obtain ⟨q,hq⟩:∃ q,q=w.heap.size+1:=⟨_,rfl⟩
  obtain ⟨r,hr⟩:∃ r,r=w.heap.size+1+1:=⟨_,rfl⟩
  rw [←hr,←hq,←hp] at H0 ⊢
  clear hp hq hr
  generalize (((w.alloc (.cells #[.slice A l.length c,.slice A2 h.length c2] 31)).alloc (.cells #[.int .i64 X.m.id,.int .i64 X.m.rt,.int .i64 X.m.ep,.int .i64 X.m.ct,.int .i64 X.m.gn,.int .i64 X.m.st,.string X.m.bd] 56)).alloc (.cells #[.slice none 0 0,.slice none 0 0] 31))=w1 at*
  refine (HV.out _ _ H0.out.va).mono ?_
  rintro e w2 ⟨rfl,hb⟩
  have H1:=Lh (H0.out.below hb)
  clear hb
  obtain ⟨r0,r1,f0,f1,rl⟩:=H1.out.rt
  have HB:=Lh (show Below w.heap.size w (set2 w2 r (.slice none 0 0) (.slice none 0 0)) from set2_below H1.out.va.bel (by have:=H1.out.ne;omega))
  go_wp2
  exact bodyPost_ret (v:=.tuple #[.agg #[.slice none 0 0,.slice none 0 0],.int .i64 x]) (by simp only [results,Tryz.results137];go_simp <;> rfl) rfl (te_nil rfl rfl rfl HB.out)
end Go.Proofs.YtncgbldcjfbknaaGreat
