/- What is proved here: shard.Take of a valid live shard; shard.Expire of a valid live shard, by a contract; in the statements of layer 7, awake is true; the hash of the document as a plain function of bytes, and the bit operations that its two programs use, as operations on natural numbers. No program is entered; shard.handleError by a contract. -/
import Derived.Test.YtncgbldcjfbknaaGreatJ25
import Derived.Test.YtncgbldcjfbknaaGreatJ24
namespace Go.Proofs.YtncgbldcjfbknaaGreat
open Go.RowKit
set_option linter.unusedVariables false
/-- The work of Take: the shard, the result box, the messages that are leased, the leases. -/
structure TkAt (w:World) (p r B:Nat) (S:Sh) (D:Sx) (A0:Option Addr) (c0:Nat) (L:List Msg) (lv:Value) (K:List Le) (W:World):Prop where
 sa:SAt w p S D W
 rs:SB8 W r zS zX
 l0:Ls W B (.slice A0 L.length c0) L
 o0:OffB p L.length A0
 own:W.ownsRow B 58 8 lv K.length (ecs K)
 dj:∀ q,lv.ownBlock=some q→SOff S D q
 dr:D.nw (r+1)
 ne:p<r∧r<B∧B≤W.heap.size
section
variable {w W W' : World} {p r B c0:Nat} {S:Sh} {D:Sx} {A0:Option Addr} {L:List Msg} {K K' : List Le} {lv:Value}
theorem TkAt.below (h:TkAt w p r B S D A0 c0 L lv K W) (hb:Below W.heap.size W W'):TkAt w p r B S D A0 c0 L lv K W':=
 ⟨h.sa.below hb,h.rs.up hb,h.l0.below (hb.mono h.ne.2.2),h.o0,own_below h.own hb,h.dj,h.dr,h.ne.1,h.ne.2.1,Nat.le_trans h.ne.2.2 hb.size⟩
/-- Stores into a box behind all lists. -/
theorem TkAt.box (h:TkAt w p r B S D A0 c0 L lv K W) {q:Addr} (hq:B≤q.block) (hrow:∀ x,lv.ownBlock=some x→x≠q.block) (ho:SOff S D q.block) (v:Value):TkAt w p r B S D A0 c0 L lv K (W.setCell q v):=by
 have hne:=h.ne
 refine ⟨h.sa.other (by omega) ho (by have:=h.sa.old;omega) v,h.rs.other (by omega) v,h.l0.setCell hq v,h.o0,?_,h.dj,h.dr,hne.1,hne.2.1,by simpa using hne.2.2⟩
 refine ⟨h.own.1,h.own.2.imp_right fun ⟨g,cap,cur,hv,hg,hh,rr⟩=>⟨g,cap,cur,hv,hg,?_,rr⟩⟩
 rw [←hh]
 exact Below.heap_setCell W q v g (fun e=>hrow g (by rw [hv];rfl) e)
/-- Another table. -/
theorem TkAt.setTab {A2 A3:Option Addr} {c2 c3:Nat} {l:List Le} {hh:List Du} (h:TkAt w p r B S D A0 c0 L lv K W) (hl:El W W.heap.size (.slice A2 l.length c2) l) (hd:Dl W W.heap.size (.slice A3 hh.length c3) hh) {lo:Nat} (n2:Nw lo A2) (n3:Nw lo A3) (hlo:B≤lo) (hrow:∀ q,lv.ownBlock=some q→q<lo) :
  TkAt w p r B ⟨S.lv,S.lo,S.hi,S.cs,S.hd,S.sz,l,hh⟩ ⟨D.A,D.c,A2,c2,A3,c3⟩ A0 c0 L lv K ((W.setCell ⟨p,6,none⟩ (.slice A2 l.length c2)).setCell ⟨p,7,none⟩ (.slice A3 hh.length c3)):=by
 have hne:=h.ne
 exact ⟨h.sa.setTab hl hd (offb_nw n2 (by omega)) (offb_nw n3 (by omega)),(h.rs.other (q:=⟨p,6,none⟩) (show p≠r by omega) _).other (q:=⟨p,7,none⟩) (show p≠r by omega) _,
  (h.l0.offp (p:=⟨p,6,none⟩) h.o0 _).offp (p:=⟨p,7,none⟩) h.o0 _,h.o0,
  own_set (own_set h.own (q:=⟨p,6,none⟩) (show p<B by omega) _) (q:=⟨p,7,none⟩) (show p<B by omega) _,
  fun q e=>⟨(h.dj q e).o1,offb_nw n2 (hrow q e),offb_nw n3 (hrow q e)⟩,⟨h.dr.n1,nw_low n2 (by omega),nw_low n3 (by omega)⟩,hne.1,hne.2.1,by simpa using hne.2.2⟩
/-- A lease more. -/
theorem TkAt.app {lv' : Value} (h:TkAt w p r B S D A0 c0 L lv K W) (ho:W'.ownsRow B 58 8 lv' K'.length (ecs K')) (hg:W.grownBy W' lv.ownBlock) (hw:∀ q,lv'.ownBlock=some q→lv.ownBlock=some q∨W.heap.size≤q):TkAt w p r B S D A0 c0 L lv' K' W':=by
 have hne:=h.ne
 have hlt:∀ q,lv.ownBlock=some q→B≤q:=fun q e=>(h.own.lt q e).1
 refine ⟨h.sa.grown hg (fun q e=>⟨h.dj q e,by have:=hlt q e;omega⟩),h.rs.grown hg (fun q e=>by have:=hlt q e;omega),h.l0.grownR hne.2.2 hg (fun q e=>?_),h.o0,ho,fun q e=>?_,h.dr,hne.1,hne.2.1,Nat.le_trans hne.2.2 hg.size⟩
 ·exact rd_off h.l0.rd (hlt q e)
 ·rcases hw q e with e' | e'
  ·exact h.dj q e'
  ·exact h.sa.sr.offs e'
end
theorem ecs_end {w1:World} {base g cap:Nat} {K:List Le} {X:Le} (hown:w1.ownsRow base 58 8 (.slice (some ⟨g,0,none⟩) (K.length+1) cap) (K.length+1) (ecs K++X.l)):w1.ownsRow base 58 8 (.slice (some ⟨g,0,none⟩) (K.length+1) cap) (K++[X]).length (ecs (K++[X])):=by
 have hM1:ecs [X]=X.l:=by simp [ecs]
 rw [ecs_app,hM1,List.length_append]
 exact hown
theorem lease_row (w:World) (X:Le) (t:TypeId):∀ j u,X.l[j]? = some u→(w.alloc (.cells #[.int .i64 X.m.id,.int .i64 X.m.rt,.int .i64 X.m.ep,.int .i64 X.m.ct,.int .i64 X.m.gn,.int .i64 X.m.st,.string X.m.bd,.int .i64 X.dl] t)).cell? ((⟨w.heap.size,0,none⟩:Addr).add j)=some u:=fun j u hu=>by
 rw [add_mk,Nat.zero_add,World.cell?_alloc_new]
 simpa [Le.l] using hu
theorem MBx.put7 {W:World} {q:Nat} {M:Msg} (h:MBx W q M) (N:Msg):MBx ((((((((W.setCell ⟨q,0,none⟩ (.int .i64 N.id)).setCell ⟨q,1,none⟩ (.int .i64 N.rt)).setCell ⟨q,2,none⟩ (.int .i64 N.ep)).setCell ⟨q,3,none⟩ (.int .i64 N.ct)).setCell ⟨q,4,none⟩ (.int .i64 N.gn)).setCell ⟨q,5,none⟩ (.int .i64 N.st)).setCell ⟨q,6,none⟩ (.string N.bd))) q N:=by
 have ht:∀ j,j<N.l.length→(W.cell? ⟨q,0+j,none⟩).isSome=true:=by
  intro j hj
  obtain ⟨h0,h1,h2,h3,h4,h5,h6⟩:=h.m7
  rw [Nat.zero_add]
  have hj7:j<7:=hj
  match j,hj7 with
  | 0,_=>rw [h0];rfl
  | 1,_=>rw [h1];rfl
  | 2,_=>rw [h2];rfl
  | 3,_=>rw [h3];rfl
  | 4,_=>rw [h4];rfl
  | 5,_=>rw [h5];rfl
  | 6,_=>rw [h6];rfl
 have g:∀ j,j<7→(W.setCells q 0 N.l).cell? ⟨q,j,none⟩=N.l[j]?:=fun j hj=>by
  have e:=World.cell?_setCells_in q N.l 0 W ht j hj
  rw [Nat.zero_add] at e
  rw [e,List.getElem?_eq_getElem (show j<N.l.length from hj)]
  rfl
 exact ⟨⟨g 0 (by decide),g 1 (by decide),g 2 (by decide),g 3 (by decide),g 4 (by decide),g 5 (by decide),g 6 (by decide)⟩,fun o=>by show (W.setCells q 0 N.l).frozen? _=_;rw [World.frozen?_setCells];exact h.fr o,by show q<(W.setCells q 0 N.l).heap.size;rw [sets_size];exact h.lt⟩
theorem TkAt.put7 {w W:World} {p r B c0:Nat} {S:Sh} {D:Sx} {A0:Option Addr} {L:List Msg} {K:List Le} {lv:Value} (h:TkAt w p r B S D A0 c0 L lv K W) {q:Nat} (hq:B≤q) (hrow:∀ x,lv.ownBlock=some x→x≠q) (ho:SOff S D q) (N:Msg):TkAt w p r B S D A0 c0 L lv K ((((((((W.setCell ⟨q,0,none⟩ (.int .i64 N.id)).setCell ⟨q,1,none⟩ (.int .i64 N.rt)).setCell ⟨q,2,none⟩ (.int .i64 N.ep)).setCell ⟨q,3,none⟩ (.int .i64 N.ct)).setCell ⟨q,4,none⟩ (.int .i64 N.gn)).setCell ⟨q,5,none⟩ (.int .i64 N.st)).setCell ⟨q,6,none⟩ (.string N.bd))):=
 ((((((h.box (q:=⟨q,0,none⟩) hq hrow ho _).box (q:=⟨q,1,none⟩) hq hrow ho _).box (q:=⟨q,2,none⟩) hq hrow ho _).box (q:=⟨q,3,none⟩) hq hrow ho _).box (q:=⟨q,4,none⟩) hq hrow ho _).box (q:=⟨q,5,none⟩) hq hrow ho _).box (q:=⟨q,6,none⟩) hq hrow ho _
/-- The leases of what was taken. -/
def lzF (dl:Int) (T:List Msg):List Le:=T.map (fun M=>⟨dlM M,dl⟩)
theorem lz_succ {dl:Int} {T:List Msg} {k:Nat} (h:k<T.length):lzF dl (T.take (k+1))=lzF dl (T.take k)++[⟨dlM T[k],dl⟩]:=by
 rw [←List.take_append_getElem h]
 unfold lzF
 rw [List.map_append]
 rfl
theorem tk_next {V:Vs} {dl:Int} {T:List Msg} {k:Nat} (h:k<T.length) {S S' : Sh} (hS:S=(V.grs dl (T.take k)).sh) (hS' : S' = (V.grs dl (T.take (k+1))).sh) :
  S' = ⟨S.lv,S.lo,S.hi,S.cs,S.hd,S.sz,grL S.l S.h ⟨dlM T[k],dl⟩,grH S.l S.h ⟨dlM T[k],dl⟩⟩:=by
 rw [hS',←List.take_append_getElem h,grs_snoc,hS]
 rfl
theorem Ls.setsP {W:World} {p B n c:Nat} {A:Option Addr} {l:List Msg} (ho:OffB p n A):∀ (vs:List Value) (m:Nat) (W:World),Ls W B (.slice A n c) l→Ls (W.setCells p m vs) B (.slice A n c) l
 | [],_,_,h=>h
 | v::r,m,W,h=>Ls.setsP (W:=W) ho r (m+1) _ (h.offp (p:=⟨p,m,none⟩) ho v)
theorem tk_out {w W:World} {p r B:Nat} {S:Sh} {D:Sx} {A0:Option Addr} {c0:Nat} {L:List Msg} {K:List Le} {lv:Value} (h:TkAt w p r B S D A0 c0 L lv K W):SLe w S K 0 (.returned (.tuple #[sv S D,lv,.int .i64 0])) (set8s W r S D):=by
 have hne:=h.ne
 have hold:=h.sa.old
 obtain ⟨A,c,rfl⟩:=own_form h.own
 refine ⟨D,A,c,rfl,h.dr.low (by omega),SR.sets (h.dr.off (Nat.lt_succ_self r)) (S.l8 D) 0 W h.sa.sr,nwv_of (nwv_own h.own (by omega)),?_,set8s_below (by omega) h.sa.bel S D⟩
 have hw:=own_sets (r:=r) (show r<B by omega) (S.l8 D) 0 W h.own
 rw [set8s_eq]
 exact El.of_own hw
set_option maxHeartbeats 8000000 in
set_option maxRecDepth 20000 in
theorem stake_ok (V:Vs) (k:V.Ok) (D:Sx) (mx:Nat) (now vis ep lim:Int) (w:World) (hs:SR w w.heap.size V.sh D) (hB:tkB mx now vis ep lim=true) (hdl:now+vis≤1073741824) :
  Calls Tryz.prog 15 #[sv V.sh D,.int .i64 (mx:Int),.int .i64 now,.int .i64 vis,.int .i64 ep,.int .i64 lim] w (SLe w (V.take mx (fun M=>rvF M ep lim) (now+vis)).sh (lzF (now+vis) (pk mx (fun M=>rvF M ep lim) V.L).1) 0):=by
 obtain ⟨i0,hi0,hz0⟩:=Option.map_eq_some_iff.1 info_lease
 simp only [Prod.mk.injEq] at hz0
 have HI:=Lh hi0
 have HZ:=Lh hz0
 have hmx:mx≤6:=by
  unfold tkB at hB
  simp only [Bool.and_eq_true] at hB
  have:=wi_of hB.2.2.2.2
  omega
 have hw:wrap64 (now+vis)=now+vis:=by
  unfold tkB at hB
  simp only [Bool.and_eq_true] at hB
  have h1:=wi_of hB.1
  have h2:=wi_of hB.2.1
  exact IntWalk.wrap64_in _ (by omega)
 obtain ⟨T,hT⟩:∃ T,T=(pk mx (fun M=>rvF M ep lim) V.L).1:=⟨_,rfl⟩
 obtain ⟨V1,hV1⟩:∃ V1,V1=V.ring (pk mx (fun M=>rvF M ep lim) V.L).2:=⟨_,rfl⟩
 obtain ⟨dl,hdd⟩:∃ dl,dl=now+vis:=⟨_,rfl⟩
 have hTK:V.take mx (fun M=>rvF M ep lim) (now+vis)=V1.grs dl T:=by rw [hT,hV1,hdd];rfl
 have HTL:=Lh (show T.length≤12 by rw [hT];have h1:=(pk_sub mx (fun M=>rvF M ep lim) V.L).2.1.length_le;have:=k.lenL;have:=k.n2;omega)
 have HPU:=Lh (fun p b1 b2 D W (q:SAt w p V.sh D W) (c:CapAt b1 b2 ep lim W)=>spull_any V k D mx b1 b2 ep lim W q.sr c (by omega))
 have HV:=Lh (fun A c p W (q:SAt w p V.sh D W) (hn:Nl W W.heap.size (.slice A 5 c) [⟨now,0,1073741824⟩,⟨vis,0,1000⟩,⟨ep,0,65536⟩,⟨lim,1,8⟩,⟨(mx:Int),1,6⟩])=>sexam_any V.sh D A 5 c [⟨now,0,1073741824⟩,⟨vis,0,1000⟩,⟨ep,0,65536⟩,⟨lim,1,8⟩,⟨(mx:Int),1,6⟩] W q.sr hn)
 have HE:([⟨now,0,1073741824⟩,⟨vis,0,1000⟩,⟨ep,0,65536⟩,⟨lim,1,8⟩,⟨(mx:Int),1,6⟩]:List Rn).all Rn.ok=tkB mx now vis ep lim:=by simp [Rn.ok,tkB]
 rw [HE,hB,k.ex true,if_pos rfl] at HV
 rw [hTK,←hT,←hdd]
 rw [←hT,←hV1] at HPU
 have hw2:wrap64 (now+vis)=dl:=by rw [hw,hdd]
 rw [←hdd] at hdl
 clear hw
 obtain ⟨S2,hS2⟩:∃ S2,S2=V1.sh:=⟨_,rfl⟩
 rw [←hS2] at HPU
 have HS2:=Lh (show S2=(V1.grs dl (T.take 0)).sh from hS2)
 have HLZ0:=Lh (show lzF dl (T.take T.length)=lzF dl T by rw [List.take_length])
 have HGZ0:=Lh (show V1.grs dl (T.take T.length)=V1.grs dl T by rw [List.take_length])
 have HTN:=Lh (fun j (h:j<T.length) S S' hS hS'=>tk_next (V:=V1) (dl:=dl) (T:=T) (k:=j) h (S:=S) (S':=S') hS hS')
 clear hS2
 have H0:=Lh (TqAt.start w V.sh D ep lim 33 3 hs)
 clear HE hs hB hT hV1 hdd hTK k hmx hi0 hz0
 obtain ⟨S,hS⟩:∃ S,S=V.sh:=⟨_,rfl⟩
 rw [←hS] at HPU HV H0
 rw [←hS]
 clear hS
 have hdl' : ¬1073741824<dl:=by omega
 have HT:=Lh (fun W=>atime_any now W)
 have HVI:=Lh (fun W=>avis_any vis W)
 have HP:=Lh (fun W=>aepoch_any ep W)
 have HL:=Lh (fun W=>alimit_any lim W)
 have hmf:∀ (fn:Fn) (first cap:Array Value) (w:World),(Instr.makeFunc fn first cap).run Tryz.prog w=.ok (.func fn first cap) w:=fun _ _ _ _=>rfl
 have hl64:T.length≤9223372036854775807:=by have:=HTL.out;omega
 clear hdl
 go_enter Tryz.func15,Tryz.ntmps15
 obtain ⟨p,hp⟩:∃ p,p=w.heap.size:=⟨_,rfl⟩
 obtain ⟨b1,hb1⟩:∃ p,p=w.heap.size+1:=⟨_,rfl⟩
 obtain ⟨b2,hb2⟩:∃ p,p=w.heap.size+1+1:=⟨_,rfl⟩
 obtain ⟨r,hr⟩:∃ p,p=w.heap.size+1+1+1:=⟨_,rfl⟩
 go_upto_region 1 with (fail)
 rw [←hr,←hb2,←hb1,←hp]
 rw [←hr,←hb2,←hb1,←hp] at H0
 clear hp hb1 hb2 hr
 generalize ((((w.alloc (.cells #[.bool S.lv,.int .i64 S.lo,.int .i64 S.hi,.slice D.A S.cs.length D.c,.int .i64 S.hd,.int .i64 S.sz,.slice D.A2 S.l.length D.c2,.slice D.A3 S.h.length D.c3] 33)).alloc (.cells #[.int .i64 ep] 3)).alloc (.cells #[.int .i64 lim] 3)).alloc (.cells #[.bool false,.int .i64 0,.int .i64 0,.slice none 0 0,.int .i64 0,.int .i64 0,.slice none 0 0,.slice none 0 0] 33))=w1 at*
 have HD:=Lh H0.out.drew
 have HT0:=Lh (show TqK p b1 b2 S D ep lim w1.drew from HD.out.k)
 go_region_held3 (fun W=>TqK p b1 b2 S D ep lim W)
  (first | with_reducible exact HT0.out | with_reducible exact HT1.out | with_reducible exact HT2.out | with_reducible exact HT3.out | with_reducible exact HT4.out | with_reducible exact HT5.out | with_reducible exact HT6.out)
  (first
  | (go_at_call 41;(with_reducible refine (HT.out _).mono ?_);rintro e w2 ⟨rfl,hb⟩;have HA1:=Lh (HD.out.below hb);have HT1:=Lh HA1.out.k;clear hb)
  | (go_at_call 42;(with_reducible refine (HVI.out _).mono ?_);rintro e w3 ⟨rfl,hb⟩;have HA2:=Lh (HA1.out.below hb);have HT2:=Lh HA2.out.k;clear hb)
  | (go_at_call 43;(with_reducible refine (HP.out _).mono ?_);rintro e w4 ⟨rfl,hb⟩;have HA3:=Lh (HA2.out.below hb);have HT3:=Lh HA3.out.k;clear hb)
  | (go_at_call 44;(with_reducible refine (HL.out _).mono ?_);rintro e w5 ⟨rfl,hb⟩;have HA4:=Lh (HA3.out.below hb);have HT4:=Lh HA4.out.k;have HA5:=Lh (HA4.out.alloc (.cells #[.int .i64 now,.int .i64 0,.int .i64 1073741824,.int .i64 vis,.int .i64 0,.int .i64 1000,.int .i64 ep,.int .i64 0,.int .i64 65536,.int .i64 lim,.int .i64 1,.int .i64 8,.int .i64 (mx:Int),.int .i64 1,.int .i64 6] 82));have HT5:=Lh HA5.out.k;have HNL:=Lh (nl_five w5 ⟨now,0,1073741824⟩ ⟨vis,0,1000⟩ ⟨ep,0,65536⟩ ⟨lim,1,8⟩ ⟨mx,1,6⟩ 82);clear hb)
  | (go_at_call 40;(with_reducible refine (HV.out _ _ _ _ HA5.out.sa ?_).mono ?_);(have:=HNL.out;simpa using this);rintro e w6 ⟨rfl,hb⟩;have HA6:=Lh (HA5.out.below hb);have HT6:=Lh HA6.out.k;clear hb))
 clear HD HT0 HT1 HT2 HT3 HT4 HT5 HT6 HA1 HA2 HA3 HA4 HA5 HNL HT HVI HP HL HV H0
 obtain ⟨t0,t1,t2,t3,t4,t5,t6,t7,tl⟩:=HA6.out.sa.s8.facts
 go_wp2_with fail
 clear t0 t1 t2 t3 t4 t5 t6 t7 tl
 refine (HPU.out _ _ _ _ _ HA6.out.sa HA6.out.cap).mono ?_
 rintro e w7 ⟨D2,A2,c2,rfl,hn,hr,hnA,hlA,hb⟩
 have HA7:=Lh (HA6.out.below hb)
 have HPR:=Lh (show ¬p=r∧¬r=p∧p<r∧r<w7.heap.size by have h1:=HA6.out.ne;have h2:=HA7.out.rs.lt;omega)
 have HP0:=Lh (show TkAt w p r w7.heap.size S2 D2 A2 c2 T (.slice none 0 0) [] ((((((((w7.setCell ⟨p,0,none⟩ (.bool S2.lv)).setCell ⟨p,1,none⟩ (.int .i64 S2.lo)).setCell ⟨p,2,none⟩ (.int .i64 S2.hi)).setCell ⟨p,3,none⟩ (.slice D2.A S2.cs.length D2.c)).setCell ⟨p,4,none⟩ (.int .i64 S2.hd)).setCell ⟨p,5,none⟩ (.int .i64 S2.sz)).setCell ⟨p,6,none⟩ (.slice D2.A2 S2.l.length D2.c2)).setCell ⟨p,7,none⟩ (.slice D2.A3 S2.h.length D2.c3)) from
  ⟨HA7.out.sa.put hr (hn.off HA6.out.sa.lt),HA7.out.rs.put_far HPR.out.2.1 S2 D2,Ls.setsP (W:=w7) (offb_nw hnA HA6.out.sa.lt) (S2.l8 D2) 0 w7 hlA,offb_nw hnA HA6.out.sa.lt,World.ownsRow_nil _ _ _ _,fun q e=>by simp [Value.ownBlock] at e,hn.low HA6.out.rs.lt,HPR.out.2.2.1,HPR.out.2.2.2,by show _≤(set8s w7 p S2 D2).heap.size;rw [set8s_size];exact Nat.le_refl _⟩)
 obtain ⟨⟨t0,t1,t2,t3,t4,t5,t6,t7,tl⟩,⟨f0,f1,f2,f3,f4,f5,f6,f7⟩⟩:=HA7.out.sa.s8.all
 clear hn hr hnA hlA hb HPU HA6
 go_wp2
 clear t0 t1 t2 t3 t4 t5 t6 t7 tl f0 f1 f2 f3 f4 f5 f6 f7 HA7
 obtain ⟨B,hB⟩:∃ B,B=w7.heap.size:=⟨_,rfl⟩
 rw [←hB] at HP0
 clear hB
 generalize ((((((((w7.setCell ⟨p,0,none⟩ (.bool S2.lv)).setCell ⟨p,1,none⟩ (.int .i64 S2.lo)).setCell ⟨p,2,none⟩ (.int .i64 S2.hi)).setCell ⟨p,3,none⟩ (.slice D2.A S2.cs.length D2.c)).setCell ⟨p,4,none⟩ (.int .i64 S2.hd)).setCell ⟨p,5,none⟩ (.int .i64 S2.sz)).setCell ⟨p,6,none⟩ (.slice D2.A2 S2.l.length D2.c2)).setCell ⟨p,7,none⟩ (.slice D2.A3 S2.h.length D2.c3))=w8 at*
 go_loopw [18,53] (fun lv i wr=>∃ (k:Nat) (S:Sh) (D:Sx),k≤T.length∧i=.int .i64 k∧Hid (S=(V1.grs dl (T.take k)).sh)∧Hid (TkAt w p r B S D A2 c2 T lv (lzF dl (T.take k)) wr)) (fun _ i _=>T.length - (intOf i).toNat)
 case atStart=>exact ⟨0,S2,D2,Nat.zero_le _,rfl,HS2,HP0⟩
 case round=>
  clear HP0 HS2
  obtain ⟨k,S,D,hk,rfl,HS,HP⟩:=hrel
  by_cases hlt:k<T.length
  ·obtain ⟨b,o,rfl,hbl,c0',c1',c2',c3',c4',c5',c6'⟩:=HP.out.l0.at_ hlt
   obtain ⟨A5,cc5,rfl⟩:=own_form HP.out.own
   obtain ⟨S',hS'⟩:∃ S',S' = (V1.grs dl (T.take (k+1))).sh:=⟨_,rfl⟩
   have HSN:=Lh (HTN.out k hlt S S' HS.out hS')
   have HSK:=Lh hS'
   have HLK:=Lh (lz_succ (dl:=dl) hlt)
   have HKL:=Lh (show (lzF dl (T.take k)).length≤12 by unfold lzF;have:=HTL.out;simp;omega)
   generalize lzF dl (T.take k)=K at*
   generalize T[k]=X at*
   have HPA:=Lh (HP.out.below ((Below.refl _ _).alloc (Nat.le_refl _) (.cells #[.int .i64 X.id,.int .i64 X.rt,.int .i64 X.ep,.int .i64 X.ct,.int .i64 X.gn,.int .i64 X.st,.string X.bd] 56)))
   have HMX:=Lh (MBx.start wr X 56)
   have HDV:=Lh (fun W=>deliver_any X W)
   generalize dlE X=xe at*
   obtain ⟨N,hN⟩:∃ N,N=dlM X:=⟨_,rfl⟩
   rw [←hN] at HSN HLK HDV
   have HGR:=Lh (fun D W (q:SAt w p S D W)=>lgrant_any D.A2 S.l.length D.c2 S.l D.A3 S.h.length D.c3 S.h ⟨N,dl⟩ W q.sr.el q.sr.dl)
   clear hN hS' HTN
   generalize grL S.l S.h ⟨N,dl⟩=gl at*
   generalize grH S.l S.h ⟨N,dl⟩=gh at*
   generalize grE S.l S.h ⟨N,dl⟩=ge' at*
   have HRO:=Lh (fun q e=>(HP.out.own.lt q e).2)
   have HOF:=Lh (show SOff S D wr.heap.size from HP.out.sa.sr.offs (Nat.le_refl _))
   have HBB:=Lh (show B≤wr.heap.size∧¬wr.heap.size=p∧¬p=wr.heap.size by have h1:=HP.out.ne;omega)
   go_wp2_with fail
   refine (HDV.out _).mono ?_
   rintro e w9 ⟨rfl,hb⟩
   have HP9:=Lh (HPA.out.below hb)
   have HM9:=Lh (HMX.out.up hb)
   have HP10:=Lh (show TkAt w p r B S D (some ⟨b,o,none⟩) c2 T (.slice A5 K.length cc5) K (((((((w9.setCell ⟨wr.heap.size,0,none⟩ (.int .i64 N.id)).setCell ⟨wr.heap.size,1,none⟩ (.int .i64 N.rt)).setCell ⟨wr.heap.size,2,none⟩ (.int .i64 N.ep)).setCell ⟨wr.heap.size,3,none⟩ (.int .i64 N.ct)).setCell ⟨wr.heap.size,4,none⟩ (.int .i64 N.gn)).setCell ⟨wr.heap.size,5,none⟩ (.int .i64 N.st)).setCell ⟨wr.heap.size,6,none⟩ (.string N.bd)) from HP9.out.put7 HBB.out.1 (fun x e=>by have:=HRO.out x e;omega) HOF.out N)
   have HM10:=Lh (show MBx (((((((w9.setCell ⟨wr.heap.size,0,none⟩ (.int .i64 N.id)).setCell ⟨wr.heap.size,1,none⟩ (.int .i64 N.rt)).setCell ⟨wr.heap.size,2,none⟩ (.int .i64 N.ep)).setCell ⟨wr.heap.size,3,none⟩ (.int .i64 N.ct)).setCell ⟨wr.heap.size,4,none⟩ (.int .i64 N.gn)).setCell ⟨wr.heap.size,5,none⟩ (.int .i64 N.st)).setCell ⟨wr.heap.size,6,none⟩ (.string N.bd)) wr.heap.size N from HM9.out.put7 N)
   clear hb
   obtain ⟨v0,v1,v2,v3,v4,v5,v6⟩:=HM9.out.m7
   have vl:=HM9.out.lt
   have vf':=HM9.out.fr
   have e0:=vf' 0
   have e1:=vf' 1
   have e2:=vf' 2
   have e3:=vf' 3
   have e4:=vf' 4
   have e5:=vf' 5
   have e6:=vf' 6
   clear vf'
   obtain ⟨⟨t0,t1,t2,t3,t4,t5,t6,t7,tl⟩,⟨f0,f1,f2,f3,f4,f5,f6,f7⟩⟩:=HP9.out.sa.s8.all
   obtain ⟨-,hyp,hpy⟩:=HBB.out
   go_wp2_with fail
   clear t0 t1 t2 t3 t4 t5 t6 t7 tl f0 f1 f2 f3 f4 f5 f6 f7 v0 v1 v2 v3 v4 v5 v6 vl e0 e1 e2 e3 e4 e5 e6
   generalize (((((((w9.setCell ⟨wr.heap.size,0,none⟩ (.int .i64 N.id)).setCell ⟨wr.heap.size,1,none⟩ (.int .i64 N.rt)).setCell ⟨wr.heap.size,2,none⟩ (.int .i64 N.ep)).setCell ⟨wr.heap.size,3,none⟩ (.int .i64 N.ct)).setCell ⟨wr.heap.size,4,none⟩ (.int .i64 N.gn)).setCell ⟨wr.heap.size,5,none⟩ (.int .i64 N.st)).setCell ⟨wr.heap.size,6,none⟩ (.string N.bd))=w10 at*
   refine (HGR.out _ _ HP10.out.sa).mono ?_
   rintro e w11 ⟨A8,c8,A9,c9,rfl,n8,n9,h8,h9,hb⟩
   have HP11:=Lh (HP10.out.below hb)
   have HM11:=Lh (HM10.out.up hb)
   have HP12:=Lh (show TkAt w p r B S' ⟨D.A,D.c,A8,c8,A9,c9⟩ (some ⟨b,o,none⟩) c2 T (.slice A5 K.length cc5) K ((w11.setCell ⟨p,6,none⟩ (.slice A8 gl.length c8)).setCell ⟨p,7,none⟩ (.slice A9 gh.length c9)) from by
    rw [HSN.out]
    exact HP11.out.setTab h8 h9 n8 n9 HP10.out.ne.2.2 (fun q e=>(HP10.out.own.lt q e).2))
   have HP13:=Lh (HP12.out.below ((Below.refl _ _).alloc (Nat.le_refl _) (.cells #[.int .i64 N.id,.int .i64 N.rt,.int .i64 N.ep,.int .i64 N.ct,.int .i64 N.gn,.int .i64 N.st,.string N.bd,.int .i64 dl] 58)))
   have HCX:=Lh (lease_row ((w11.setCell ⟨p,6,none⟩ (.slice A8 gl.length c8)).setCell ⟨p,7,none⟩ (.slice A9 gh.length c9)) ⟨N,dl⟩ 58)
   clear n8 n9 h8 h9 hb
   obtain ⟨⟨t0,t1,t2,t3,t4,t5,t6,t7,tl⟩,⟨f0,f1,f2,f3,f4,f5,f6,f7⟩⟩:=HP11.out.sa.s8.all
   obtain ⟨v0,v1,v2,v3,v4,v5,v6⟩:=HM11.out.m7
   have vl:=HM11.out.lt
   go_wp2_with (at_builtin;refine wpList_append_lies _ rfl (.tmp 71) (.tmp 75) 28 rfl B 58 i0 _ 8 72 Tryz.underlying28 HI.out HZ.out.1 HZ.out.2.1 HZ.out.2.2 rfl (by omega) (.slice A5 K.length cc5) K.length (ecs K) rfl HP13.out.own ⟨w11.heap.size,0,none⟩ 1 1 (Le.l ⟨N,dl⟩) rfl (by simp [Le.l_len]) (fun j u hu=>by have:=HCX.out j u hu;simpa using this) (Le.l_one ⟨N,dl⟩) (by omega) (by have:=HKL.out;unfold maxLen;omega) (by have:=HKL.out;omega) HP13.out.ne.2.2 _ rfl ?_;intro g cap w14 hown hgrow hat hglt)
   have HP14:=Lh (HP13.out.app (ecs_end hown) hgrow (fun q e=>by
    rcases hat with h | h
    ·left;rw [h];simpa [Value.ownBlock] using e
    ·right;simp only [Value.ownBlock] at e;injection e with e;rw [←e,h];exact Nat.le_refl _))
   clear hown hgrow hat hglt t0 t1 t2 t3 t4 t5 t6 t7 tl f0 f1 f2 f3 f4 f5 f6 f7 v0 v1 v2 v3 v4 v5 v6 vl
   go_wp2
   go_roundw
   case rel=>exact ⟨k+1,S',⟨D.A,D.c,A8,c8,A9,c9⟩,by omega,by go_num,HSK,by rw [HLK.out];exact HP14⟩
   case measure=>simp [intOf];omega
  ·obtain rfl:k=T.length:=by omega
   obtain ⟨A5,cc5,rfl⟩:=own_form HP.out.own
   have HF:=Lh (show SLe w (V1.grs dl T).sh (lzF dl T) 0 (.returned (.tuple #[sv S D,.slice A5 (lzF dl (T.take T.length)).length cc5,.int .i64 0])) (set8s wr r S D) from by
    rw [←HGZ0.out,←HS.out,←HLZ0.out]
    exact tk_out HP.out)
   obtain ⟨⟨t0,t1,t2,t3,t4,t5,t6,t7,tl⟩,⟨f0,f1,f2,f3,f4,f5,f6,f7⟩⟩:=HP.out.sa.s8.all
   obtain ⟨⟨r0,r1,r2,r3,r4,r5,r6,r7,rl⟩,⟨g0,g1,g2,g3,g4,g5,g6,g7⟩⟩:=HP.out.rs.all
   obtain ⟨hpr,hrp,-,-⟩:=HPR.out
   go_wp2
   exact bodyPost_ret (v:=.tuple #[sv S D,.slice A5 (lzF dl (T.take T.length)).length cc5,.int .i64 0]) (by simp only [results,Tryz.results15];go_simp <;> rfl) rfl HF.out
def xpB (now ep lim:Int):Bool:=wi now 0 1073741824&&(wi ep 0 65536&&wi lim 1 8)
/-- A shard, numbers and an error as a result. -/
def SIe (w:World) (S:Sh) (l:List Int) (x:Int) (e:Ending) (w' : World):Prop:=∃ D A c,e=.returned (.tuple #[sv S D,.slice A l.length c,.int .i64 x])∧D.nw w.heap.size∧SR w' w'.heap.size S D∧Nr w' w'.heap.size (.slice A l.length c) l∧Below w.heap.size w w'
theorem sie_zero {w w' : World} {x:Int} {r:Nat} (hr:w.heap.size≤r) (hb:Below w.heap.size w w'):SIe w zS [] x (.returned (.tuple #[.agg #[.bool false,.int .i64 0,.int .i64 0,.slice none 0 0,.int .i64 0,.int .i64 0,.slice none 0 0,.slice none 0 0],.slice none 0 0,.int .i64 x])) (z8 w' r):=
 ⟨zX,none,0,rfl,zX_nw _,SR.zero,Nr.nil,set8s_below hr hb zS zX⟩
/-- What Expire makes of a shard. -/
noncomputable def xpF (S:Sh) (ids:List Int):Sh:=ids.foldl gbB S
theorem xp_next {S:Sh} {ids:List Int} {k:Nat} (h:k<ids.length):xpF S (ids.take (k+1))=gbB (xpF S (ids.take k)) ids[k]:=by
 rw [←List.take_append_getElem h]
 unfold xpF
 rw [List.foldl_append]
 rfl
theorem nl_three (w:World) (a b c:Rn) (t:TypeId):Nl (w.alloc (.cells #[.int .i64 a.n,.int .i64 a.lo,.int .i64 a.hi,.int .i64 b.n,.int .i64 b.lo,.int .i64 b.hi,.int .i64 c.n,.int .i64 c.lo,.int .i64 c.hi] t)) (w.heap.size+1) (.slice (some ⟨w.heap.size,0,none⟩) 3 3) [a,b,c]:=by
 refine ⟨_,3,rfl,Nat.le_refl _,by unfold maxLen;omega,by simp [rcs,Rn.l],fun _=>⟨w.heap.size,0,rfl,Nat.lt_succ_self _,fun j u hu=>?_⟩⟩
 rw [Nat.zero_add,World.cell?_alloc_new]
 simpa [rcs,Rn.l] using hu
theorem Nr.offp {W:World} {B n c:Nat} {A:Option Addr} {l:List Int} (h:Nr W B (.slice A n c) l) {p:Addr} (ho:OffB p.block n A) (v:Value):Nr (W.setCell p v) B (.slice A n c) l:=by
 obtain ⟨A',c',e,h2,h3,hr⟩:=h
 injection e with e1 e2 e3
 subst e1;subst e2;subst e3
 exact ⟨A,c,rfl,h2,h3,hr.offp ho v⟩
theorem Nr.setsP {p B n c:Nat} {A:Option Addr} {l:List Int} (ho:OffB p n A):∀ (vs:List Value) (m:Nat) (W:World),Nr W B (.slice A n c) l→Nr (W.setCells p m vs) B (.slice A n c) l
 | [],_,_,h=>h
 | v::r,m,W,h=>Nr.setsP ho r (m+1) _ (h.offp (p:=⟨p,m,none⟩) ho v)
/-- The work of Expire. -/
structure XpAt (w:World) (p r:Nat) (S:Sh) (D:Sx) (A0:Option Addr) (c0:Nat) (ids:List Int) (W:World):Prop where
 sa:SAt w p S D W
 rs:SB8 W r zS zX
 nr:Nr W W.heap.size (.slice A0 ids.length c0) ids
 o0:OffB p ids.length A0
 o1:OffB r ids.length A0
 dr:D.nw (r+1)
 ne:p<r
theorem XpAt.below {w W W' : World} {p r c0:Nat} {S:Sh} {D:Sx} {A0:Option Addr} {ids:List Int} (h:XpAt w p r S D A0 c0 ids W) (hb:Below W.heap.size W W'):XpAt w p r S D A0 c0 ids W':=
 ⟨h.sa.below hb,h.rs.up hb,h.nr.up hb,h.o0,h.o1,h.dr,h.ne⟩
theorem XpAt.put {w W:World} {p r c0:Nat} {S T:Sh} {D E:Sx} {A0:Option Addr} {ids:List Int} (h:XpAt w p r S D A0 c0 ids W) (hr:SR W W.heap.size T E) (he:E.nw (r+1)):XpAt w p r T E A0 c0 ids (set8s W p T E):=
 ⟨h.sa.put hr (he.off (by have:=h.ne;omega)),h.rs.put_far (by have:=h.ne;omega) T E,(Nr.setsP h.o0 (T.l8 E) 0 W h.nr).more (by show _≤(set8s W p T E).heap.size;rw [set8s_size];exact Nat.le_refl _),h.o0,h.o1,he,h.ne⟩
theorem xp_out {w W:World} {p r c0:Nat} {S:Sh} {D:Sx} {A0:Option Addr} {ids:List Int} (h:XpAt w p r S D A0 c0 ids W):SIe w S ids 0 (.returned (.tuple #[sv S D,.slice A0 ids.length c0,.int .i64 0])) (set8s W r S D):=by
 have hne:=h.ne
 have hold:=h.sa.old
 exact ⟨D,A0,c0,rfl,h.dr.low (by omega),SR.sets (h.dr.off (Nat.lt_succ_self r)) (S.l8 D) 0 W h.sa.sr,(Nr.setsP h.o1 (S.l8 D) 0 W h.nr).more (by show _≤(set8s W r S D).heap.size;rw [set8s_size];exact Nat.le_refl _),set8s_below (by omega) h.sa.bel S D⟩
set_option maxHeartbeats 8000000 in
set_option maxRecDepth 20000 in
theorem sexp_ok (V:Vs) (k:V.Ok) (D:Sx) (now ep lim:Int) (w:World) (hs:SR w w.heap.size V.sh D) (hB:xpB now ep lim=true) :
  Calls Tryz.prog 18 #[sv V.sh D,.int .i64 now,.int .i64 ep,.int .i64 lim] w (SIe w (xpF V.sh (laV V.l V.h now ep)) (laV V.l V.h now ep) 0):=by
 have HV:=Lh (fun A c p W (q:SAt w p V.sh D W) (hn:Nl W W.heap.size (.slice A 3 c) [⟨now,0,1073741824⟩,⟨ep,0,65536⟩,⟨lim,1,8⟩])=>sexam_any V.sh D A 3 c [⟨now,0,1073741824⟩,⟨ep,0,65536⟩,⟨lim,1,8⟩] W q.sr hn)
 have HE:([⟨now,0,1073741824⟩,⟨ep,0,65536⟩,⟨lim,1,8⟩]:List Rn).all Rn.ok=xpB now ep lim:=by simp [Rn.ok,xpB]
 rw [HE,hB,k.ex true,if_pos rfl] at HV
 have hn1:1≤V.sh.cs.length:=by rw [show V.sh.cs.length=V.n from fil_len _ _ _];exact k.n1
 have hn2:V.sh.cs.length≤12:=by rw [show V.sh.cs.length=V.n from fil_len _ _ _];exact k.n2
 have hn3:V.sh.l.length≤12:=k.tb.len
 have hn4:V.sh.h.length≤12:=by have:=k.tb.hlen;show V.h.length≤12;have:=k.tb.len;omega
 have HCL:=Lh (fun p D W (q:SAt w p V.sh D W)=>sclone_any V.sh D W q.sr hn1 (by omega) (by omega) (by omega))
 have HLP:=Lh (fun p D W (q:SAt w p V.sh D W)=>llapsed_nw D.A2 V.sh.l.length D.c2 V.sh.l D.A3 V.sh.h.length D.c3 V.sh.h now ep W q.sr.el q.sr.dl)
 have H0:=Lh ((SAt.start 33 hs).alloc (.cells #[.bool false,.int .i64 0,.int .i64 0,.slice none 0 0,.int .i64 0,.int .i64 0,.slice none 0 0,.slice none 0 0] 33))
 have R0:=Lh (SB8.zero (w.alloc (.cells #[.bool V.sh.lv,.int .i64 V.sh.lo,.int .i64 V.sh.hi,.slice D.A V.sh.cs.length D.c,.int .i64 V.sh.hd,.int .i64 V.sh.sz,.slice D.A2 V.sh.l.length D.c2,.slice D.A3 V.sh.h.length D.c3] 33)) 33)
 have HID:laV V.sh.l V.sh.h now ep=laV V.l V.h now ep:=rfl
 rw [HID] at HLP
 clear HE HID hs hB k hn1 hn2 hn3 hn4
 generalize laV V.l V.h now ep=ids at*
 obtain ⟨S,hS⟩:∃ S,S=V.sh:=⟨_,rfl⟩
 rw [←hS] at HV HCL HLP H0 R0
 rw [←hS]
 clear hS
 have HX0:=Lh (show S=xpF S (ids.take 0) from rfl)
 have HXE:=Lh (show xpF S (ids.take ids.length)=xpF S ids by rw [List.take_length])
 have HXN:=Lh (fun j (h:j<ids.length)=>xp_next (S:=S) h)
 have HT:=Lh (fun W=>atime_any now W)
 have HP:=Lh (fun W=>aepoch_any ep W)
 have HL:=Lh (fun W=>alimit_any lim W)
 obtain ⟨F,hF⟩:∃ F,F=xpF S:=⟨_,rfl⟩
 rw [←hF] at HX0 HXE HXN
 have HFF:=Lh hF
 clear hF
 go_enter Tryz.func18,Tryz.ntmps18
 obtain ⟨p,hp⟩:∃ p,p=w.heap.size:=⟨_,rfl⟩
 obtain ⟨r,hr⟩:∃ r,r=w.heap.size+1:=⟨_,rfl⟩
 have e1:(w.alloc (.cells #[.bool S.lv,.int .i64 S.lo,.int .i64 S.hi,.slice D.A S.cs.length D.c,.int .i64 S.hd,.int .i64 S.sz,.slice D.A2 S.l.length D.c2,.slice D.A3 S.h.length D.c3] 33)).heap.size=r:=by rw [hr];simp
 rw [e1] at R0
 have HPR:=Lh (show ¬p=r∧¬r=p∧w.heap.size≤p∧p<r by omega)
 go_upto_region 1 with (fail)
 rw [←hr,←hp]
 rw [←hp] at H0
 clear e1 hp hr
 generalize ((w.alloc (.cells #[.bool S.lv,.int .i64 S.lo,.int .i64 S.hi,.slice D.A S.cs.length D.c,.int .i64 S.hd,.int .i64 S.sz,.slice D.A2 S.l.length D.c2,.slice D.A3 S.h.length D.c3] 33)).alloc (.cells #[.bool false,.int .i64 0,.int .i64 0,.slice none 0 0,.int .i64 0,.int .i64 0,.slice none 0 0,.slice none 0 0] 33))=w1 at*
 have HD:=Lh H0.out.drew
 have R1:=Lh (R0.out.up ((Below.refl _ _).drew))
 have HT0:=Lh (show K8 p S D w1.drew from HD.out.k8)
 go_region_held3 (fun W=>K8 p S D W)
  (first | with_reducible exact HT0.out | with_reducible exact HT1.out | with_reducible exact HT2.out | with_reducible exact HT3.out | with_reducible exact HT4.out | with_reducible exact HT5.out)
  (first
  | (go_at_call 41;(with_reducible refine (HT.out _).mono ?_);rintro e w2 ⟨rfl,hb⟩;have HA1:=Lh (HD.out.below hb);have R2:=Lh (R1.out.up hb);have HT1:=Lh HA1.out.k8;clear hb)
  | (go_at_call 43;(with_reducible refine (HP.out _).mono ?_);rintro e w3 ⟨rfl,hb⟩;have HA2:=Lh (HA1.out.below hb);have R3:=Lh (R2.out.up hb);have HT2:=Lh HA2.out.k8;clear hb)
  | (go_at_call 44;(with_reducible refine (HL.out _).mono ?_);rintro e w4 ⟨rfl,hb⟩;have HA3:=Lh (HA2.out.below hb);have HT3:=Lh HA3.out.k8;have HA4:=Lh (HA3.out.alloc (.cells #[.int .i64 now,.int .i64 0,.int .i64 1073741824,.int .i64 ep,.int .i64 0,.int .i64 65536,.int .i64 lim,.int .i64 1,.int .i64 8] 82));have R4:=Lh ((R3.out.up hb).up ((Below.refl _ _).alloc (Nat.le_refl _) (.cells #[.int .i64 now,.int .i64 0,.int .i64 1073741824,.int .i64 ep,.int .i64 0,.int .i64 65536,.int .i64 lim,.int .i64 1,.int .i64 8] 82)));have HT4:=Lh HA4.out.k8;have HNL:=Lh (nl_three w4 ⟨now,0,1073741824⟩ ⟨ep,0,65536⟩ ⟨lim,1,8⟩ 82);clear hb)
  | (go_at_call 40;(with_reducible refine (HV.out _ _ _ _ HA4.out ?_).mono ?_);(have:=HNL.out;simpa using this);rintro e w5 ⟨rfl,hb⟩;have HA5:=Lh (HA4.out.below hb);have R5:=Lh (R4.out.up hb);have HT5:=Lh HA5.out.k8;clear hb))
 clear HD HT0 HT1 HT2 HT3 HT4 HT5 HA1 HA2 HA3 HA4 HNL HT HP HL HV H0 R0 R1 R2 R3 R4
 obtain ⟨t0,t1,t2,t3,t4,t5,t6,t7,tl⟩:=HA5.out.s8.facts
 go_wp2_with fail
 clear t0 t1 t2 t3 t4 t5 t6 t7 tl
 refine (HCL.out _ _ _ HA5.out).mono ?_
 rintro e w6 ⟨D2,rfl,hn2,hr2,hb⟩
 have H1:=Lh (HA5.out.below hb)
 have H2:=Lh (show SAt w p S D2 ((((((((w6.setCell ⟨p,0,none⟩ (.bool S.lv)).setCell ⟨p,1,none⟩ (.int .i64 S.lo)).setCell ⟨p,2,none⟩ (.int .i64 S.hi)).setCell ⟨p,3,none⟩ (.slice D2.A S.cs.length D2.c)).setCell ⟨p,4,none⟩ (.int .i64 S.hd)).setCell ⟨p,5,none⟩ (.int .i64 S.sz)).setCell ⟨p,6,none⟩ (.slice D2.A2 S.l.length D2.c2)).setCell ⟨p,7,none⟩ (.slice D2.A3 S.h.length D2.c3)) from H1.out.put hr2 (hn2.off HA5.out.lt))
 have R2:=Lh (show SB8 ((((((((w6.setCell ⟨p,0,none⟩ (.bool S.lv)).setCell ⟨p,1,none⟩ (.int .i64 S.lo)).setCell ⟨p,2,none⟩ (.int .i64 S.hi)).setCell ⟨p,3,none⟩ (.slice D2.A S.cs.length D2.c)).setCell ⟨p,4,none⟩ (.int .i64 S.hd)).setCell ⟨p,5,none⟩ (.int .i64 S.sz)).setCell ⟨p,6,none⟩ (.slice D2.A2 S.l.length D2.c2)).setCell ⟨p,7,none⟩ (.slice D2.A3 S.h.length D2.c3)) r zS zX from (R5.out.up hb).put_far HPR.out.2.1 S D2)
 have N2:=Lh (show D2.nw (r+1) from hn2.low R5.out.lt)
 clear hn2 hr2 hb
 obtain ⟨⟨t0,t1,t2,t3,t4,t5,t6,t7,tl⟩,⟨f0,f1,f2,f3,f4,f5,f6,f7⟩⟩:=H1.out.s8.all
 go_wp2_with fail
 clear t0 t1 t2 t3 t4 t5 t6 t7 tl f0 f1 f2 f3 f4 f5 f6 f7 H1 HA5 R5
 generalize ((((((((w6.setCell ⟨p,0,none⟩ (.bool S.lv)).setCell ⟨p,1,none⟩ (.int .i64 S.lo)).setCell ⟨p,2,none⟩ (.int .i64 S.hi)).setCell ⟨p,3,none⟩ (.slice D2.A S.cs.length D2.c)).setCell ⟨p,4,none⟩ (.int .i64 S.hd)).setCell ⟨p,5,none⟩ (.int .i64 S.sz)).setCell ⟨p,6,none⟩ (.slice D2.A2 S.l.length D2.c2)).setCell ⟨p,7,none⟩ (.slice D2.A3 S.h.length D2.c3))=w7 at*
 refine (HLP.out _ _ _ H2.out).mono ?_
 rintro e w8 ⟨A0,c0,rfl,hni,hb,hnw⟩
 have HX:=Lh (show XpAt w p r S D2 A0 c0 ids w8 from ⟨H2.out.below hb,R2.out.up hb,hni,offb_nw hnw H2.out.lt,offb_nw hnw R2.out.lt,N2.out,HPR.out.2.2.2⟩)
 have hl64:ids.length≤9223372036854775807:=by have:=hni.len;unfold maxLen at this;omega
 clear hni hb hnw H2 R2 N2 HCL HLP
 go_wp2
 go_loopw [37] (fun i wr=>∃ (k:Nat) (S:Sh) (D:Sx),k≤ids.length∧i=.int .i64 k∧Hid (S=F (ids.take k))∧Hid (XpAt w p r S D A0 c0 ids wr)) (fun i _=>ids.length - (intOf i).toNat)
 case atStart=>exact ⟨0,S,D2,Nat.zero_le _,rfl,HX0,HX⟩
 case round=>
  clear HX HX0
  obtain ⟨k,S,D,hk,rfl,HS,HX⟩:=hrel
  by_cases hlt:k<ids.length
  ·obtain ⟨b,o,rfl,hbl,c0'⟩:=HX.out.nr.at_ hlt
   have HNX:=Lh (HXN.out k hlt)
   rw [←HS.out] at HNX
   generalize ids[k]=x at*
   obtain ⟨T,hT⟩:∃ T,T=gbB S x:=⟨_,rfl⟩
   have HGB:=Lh (fun D W (q:SAt w p S D W)=>giveback_any S D x W q.sr)
   rw [←hT] at HNX HGB
   have HTT:=Lh HNX.out.symm
   clear hT HNX HXN
   obtain ⟨t0,t1,t2,t3,t4,t5,t6,t7,tl⟩:=HX.out.sa.s8.facts
   go_wp2_with fail
   clear t0 t1 t2 t3 t4 t5 t6 t7 tl
   refine (HGB.out _ _ HX.out.sa).mono ?_
   rintro e w9 ⟨D3,rfl,hn3,hr3,hb⟩
   have HX9:=Lh (HX.out.below hb)
   have HXP:=Lh (show XpAt w p r T D3 (some ⟨b,o,none⟩) c0 ids ((((((((w9.setCell ⟨p,0,none⟩ (.bool T.lv)).setCell ⟨p,1,none⟩ (.int .i64 T.lo)).setCell ⟨p,2,none⟩ (.int .i64 T.hi)).setCell ⟨p,3,none⟩ (.slice D3.A T.cs.length D3.c)).setCell ⟨p,4,none⟩ (.int .i64 T.hd)).setCell ⟨p,5,none⟩ (.int .i64 T.sz)).setCell ⟨p,6,none⟩ (.slice D3.A2 T.l.length D3.c2)).setCell ⟨p,7,none⟩ (.slice D3.A3 T.h.length D3.c3)) from HX9.out.put hr3 (hn3.low HX.out.rs.lt))
   clear hn3 hr3 hb
   obtain ⟨⟨t0,t1,t2,t3,t4,t5,t6,t7,tl⟩,⟨f0,f1,f2,f3,f4,f5,f6,f7⟩⟩:=HX9.out.sa.s8.all
   go_wp2
   go_roundw
   case rel=>exact ⟨k+1,T,D3,by omega,by go_num,HTT,HXP⟩
   case measure=>simp [intOf];omega
  ·obtain rfl:k=ids.length:=by omega
   have HF:=Lh (show SIe w (F ids) ids 0 (.returned (.tuple #[sv S D,.slice A0 ids.length c0,.int .i64 0])) (set8s wr r S D) from by
    rw [←HXE.out,←HS.out]
    exact xp_out HX.out)
   rw [HFF.out] at HF
   obtain ⟨⟨t0,t1,t2,t3,t4,t5,t6,t7,tl⟩,⟨f0,f1,f2,f3,f4,f5,f6,f7⟩⟩:=HX.out.sa.s8.all
   obtain ⟨⟨r0,r1,r2,r3,r4,r5,r6,r7,rl⟩,⟨g0,g1,g2,g3,g4,g5,g6,g7⟩⟩:=HX.out.rs.all
   obtain ⟨hpr,hrp,-,-⟩:=HPR.out
   go_wp2
   exact bodyPost_ret (v:=.tuple #[sv S D,.slice A0 ids.length c0,.int .i64 0]) (by simp only [results,Tryz.results18];go_simp <;> rfl) rfl HF.out
/-- A push into a valid live shard. -/
theorem put_sh {V:Vs} {M:Msg} (k:V.Ok) (f:Fits V M):puS V.sh M=0∧spuR V.sh M=(V.push M).sh:=by
 have hd:dpB (V.sh.al++[M])=false:=by
  rw [k.al_sh]
  exact dpB_no (gd_perm (List.perm_append_singleton M V.al).symm (gd_cons.2 ⟨f.vf,k.gd,f.new⟩)).2
 have e:puS V.sh M=0:=puS_0 (by rw [k.ex true];rfl) f.vf (wi_true f.own.1 f.own.2) (by
  show ¬((V.L.length:Int)+V.l.length=(fil V.n V.hd V.L).length)
  rw [fil_len]
  have:=f.room
  omega) hd
 refine ⟨e,?_⟩
 obtain ⟨p1,p2⟩:=k.pb f
 unfold spuR
 rw [if_pos e]
 show Sh.mk true V.lo V.hi (pbC (fil V.n V.hd V.L) V.hd V.L.length M) (ifE (puE (fil V.n V.hd V.L) V.hd V.L.length M) V.hd) (ifE (puE (fil V.n V.hd V.L) V.hd V.L.length M) (V.L.length+1)) V.l V.h=Sh.mk true V.lo V.hi (fil V.n V.hd (V.L++[M])) V.hd (V.L++[M]).length V.l V.h
 rw [p1,p2]
 simp [ifE]
/-- A new shard. -/
theorem new_sh {n:Nat} {lo hi:Int} (h1:1≤n) (h2:n≤12) (hs:0≤lo∧lo≤hi∧hi<65536):neE n lo hi=0∧neS n lo hi=(⟨lo,hi,n,0,[],[],[]⟩:Vs).sh∧(⟨lo,hi,n,0,[],[],[]⟩:Vs).Ok:=by
 obtain ⟨e1,e2⟩:=nwC_fil h1 h2 0 (by omega)
 have e:neE n lo hi=0:=by unfold neE;rw [if_neg (fun g=>g e2),if_pos (spB_iff.2 hs)]
 refine ⟨e,?_,⟨h1,h2,by show 0<n;omega,TbOk.nil,hs,by show 0+0≤n;omega,gd_nil,fun M hM=>by cases hM⟩⟩
 unfold neS
 rw [if_pos e,e1]
 rfl
def mA1:Msg:=⟨1,0,0,0,0,0,⟨#[]⟩⟩
def xA1:Le:=⟨⟨1,0,0,1,1,0,⟨#[]⟩⟩,15⟩
def vA0:Vs:=⟨0,65535,3,0,[],[],[]⟩
def vA1:Vs:=⟨0,65535,3,0,[mA1],[],[]⟩
def vA2:Vs:=⟨0,65535,3,0,[],[xA1],[xA1.du]⟩
theorem aA0:neE 3 0 65535=0∧neS 3 0 65535=vA0.sh∧vA0.Ok:=new_sh (n:=3) (by decide) (by decide) (by decide)
theorem fA1:Fits vA0 mA1:=⟨by decide,by decide,by decide,fun N hN=>by cases hN⟩
theorem aA1:puS vA0.sh mA1=0∧spuR vA0.sh mA1=vA1.sh∧vA1.Ok:=by
 obtain ⟨h1,h2⟩:=put_sh aA0.2.2 fA1
 exact ⟨h1,h2,aA0.2.2.push fA1⟩
theorem dA1:dlM mA1=xA1.m:=dl_rv (M:=mA1) (ep:=0) (lim:=3) (by decide) (by decide) (by decide)
theorem oA1:leOk xA1:=⟨by decide,by decide,by decide,by decide⟩
theorem kA1:pk 1 (fun M=>rvF M 0 3) [mA1]=([mA1],[]):=by
 have h:rvF mA1 0 3=true:=by decide
 unfold pk pkS
 simp [h]
theorem aA2:vA1.take 1 (fun M=>rvF M 0 3) 15=vA2∧vA2.Ok:=by
 have e0:(vA1.ring []).Ok:=ring_ok aA1.2.2 (List.nil_sublist _)
 have f:Fits (vA1.ring []) xA1.m:=⟨by decide,by decide,by decide,fun N hN=>by cases hN⟩
 obtain ⟨h1,h2,-,h3⟩:=e0.gr (x:=xA1) f oA1
 have e3:(vA1.ring []).gr xA1=vA2:=by
  have g1:grL [] [] xA1=[xA1]:=h3.trans rfl
  have g0:grE [] [] xA1=0:=h1
  have g2:grH [] [] xA1=[xA1.du]:=by
   unfold grH
   rw [if_pos g0]
   unfold hpu
   rw [List.length_nil,upF_zero]
   rfl
  show Vs.mk 0 65535 3 0 [] (grL [] [] xA1) (grH [] [] xA1)=_
  rw [g1,g2]
  rfl
 have e4:vA1.take 1 (fun M=>rvF M 0 3) 15=(vA1.ring []).gr xA1:=by
  unfold Vs.take
  rw [show vA1.L=[mA1] from rfl,kA1]
  show (vA1.ring []).gr ⟨dlM mA1,15⟩=_
  rw [dA1]
  rfl
 rw [e4,e3]
 rw [e3] at h2
 exact ⟨rfl,h2⟩
theorem lA1:lzF 15 (pk 1 (fun M=>rvF M 0 3) vA1.L).1=[xA1]:=by
 rw [show vA1.L=[mA1] from rfl,kA1]
 show [(⟨dlM mA1,15⟩:Le)]=_
 rw [dA1]
 rfl
theorem fnA:fnO vA2.l vA2.h 1=true∧fnX vA2.l vA2.h 1=xA1:=aA2.2.tb.fn (k:=0) (by decide)
theorem hA14:hoF vA2.sh ⟨1,1,0,0⟩ 14 0=true:=by
 unfold hoF
 rw [aA2.2.ex]
 rw [show fnO vA2.sh.l vA2.sh.h 1=true from fnA.1,show fnX vA2.sh.l vA2.sh.h 1=xA1 from fnA.2]
 decide
theorem hA15:hoF vA2.sh ⟨1,1,0,0⟩ 15 0=false:=by
 unfold hoF
 rw [aA2.2.ex]
 rw [show fnO vA2.sh.l vA2.sh.h 1=true from fnA.1,show fnX vA2.sh.l vA2.sh.h 1=xA1 from fnA.2]
 decide
theorem lpA:laV vA2.l vA2.h 15 0=[1]:=by
 have t:=aA2.2.tb
 have hh:=(vaF_zero t.va).2.2.2
 have e:unF vA2.h 15=[1]:=by
  rw [unF_sorted hh (List.Perm.refl _) (by unfold Srt;exact List.pairwise_singleton _ _)]
  decide
 rw [t.lav]
 unfold laF
 rw [e,List.filter_cons,fnA.2]
 rfl
/-- A shard, a list of one and no error as a result. -/
def SO1 (w:World) (S:Sh) (e:Ending) (w' : World):Prop:=∃ D A c,e=.returned (.tuple #[sv S D,.slice A 1 c,.int .i64 0])∧D.nw w.heap.size∧SR w' w'.heap.size S D∧Below w.heap.size w w'
theorem SAt.made {w W:World} {S:Sh} {D:Sx} (t:TypeId) (hb:Below w.heap.size w W) (hr:SR W W.heap.size S D):SAt w W.heap.size S D (W.alloc (.cells #[.bool S.lv,.int .i64 S.lo,.int .i64 S.hi,.slice D.A S.cs.length D.c,.int .i64 S.hd,.int .i64 S.sz,.slice D.A2 S.l.length D.c2,.slice D.A3 S.h.length D.c3] t)):=
 ⟨SB8.start W S D _,hr.up ((Below.refl _ _).alloc (Nat.le_refl _) _),hr.offs (Nat.le_refl _),hb.alloc hb.size _,hb.size⟩
set_option maxHeartbeats 8000000 in
set_option maxRecDepth 20000 in
theorem awake7_any (w:World):Calls Tryz.prog 21 #[] w fun e w'=>e=.returned (.bool true)∧Below w.heap.size w w':=by
 obtain ⟨S0,hS0⟩:∃ S,S=vA0.sh:=⟨_,rfl⟩
 obtain ⟨S1,hS1⟩:∃ S,S=vA1.sh:=⟨_,rfl⟩
 obtain ⟨S2,hS2⟩:∃ S,S=vA2.sh:=⟨_,rfl⟩
 have HN:=Lh (fun W=>show Calls Tryz.prog 31 #[.int .i64 3,.int .i64 0,.int .i64 65535] W (SE W S0 0) from by
  have h:=snew_any 3 0 65535 W
  rw [aA0.1,aA0.2.1,←hS0] at h
  exact h)
 have HP:=Lh (fun D W (k:SR W W.heap.size S0 D)=>show Calls Tryz.prog 32 #[sv S0 D,.agg #[.int .i64 1,.int .i64 0,.int .i64 0,.int .i64 0,.int .i64 0,.int .i64 0,.string ⟨#[]⟩]] W (SE W S1 0) from by
  have h:=sput_any S0 D mA1 W k
  rw [hS0,aA1.1,aA1.2.1,←hS1,←hS0] at h
  exact h)
 have HT:=Lh (fun D W (k:SR W W.heap.size S1 D)=>show Calls Tryz.prog 15 #[sv S1 D,.int .i64 1,.int .i64 10,.int .i64 5,.int .i64 0,.int .i64 3] W (SO1 W S2) from by
  rw [hS1] at k ⊢
  have h:=stake_ok vA1 aA1.2.2 D 1 10 5 0 3 W k (by decide) (by decide)
  rw [show (10:Int)+5=15 from rfl,aA2.1,lA1,←hS2] at h
  exact h.mono fun e w' ⟨D,A,c,he,hn,hr,_,_,hb⟩=>⟨D,A,c,he,hn,hr,hb⟩)
 have HH1:=Lh (fun D W (k:SR W W.heap.size S2 D)=>show Calls Tryz.prog 23 #[sv S2 D,.agg #[.int .i64 1,.int .i64 1,.int .i64 0,.int .i64 0],.int .i64 14,.int .i64 0] W (fun e w'=>e=.returned (.bool true)∧Below W.heap.size W w') from by
  have h:=sholds_any S2 D ⟨1,1,0,0⟩ 14 0 W k
  rw [hS2,hA14,←hS2] at h
  exact h)
 have HH2:=Lh (fun D W (k:SR W W.heap.size S2 D)=>show Calls Tryz.prog 23 #[sv S2 D,.agg #[.int .i64 1,.int .i64 1,.int .i64 0,.int .i64 0],.int .i64 15,.int .i64 0] W (fun e w'=>e=.returned (.bool false)∧Below W.heap.size W w') from by
  have h:=sholds_any S2 D ⟨1,1,0,0⟩ 15 0 W k
  rw [hS2,hA15,←hS2] at h
  exact h)
 obtain ⟨S3,hS3⟩:∃ S,S=xpF vA2.sh (laV vA2.l vA2.h 15 0):=⟨_,rfl⟩
 have HX:=Lh (fun D W (k:SR W W.heap.size S2 D)=>show Calls Tryz.prog 18 #[sv S2 D,.int .i64 15,.int .i64 0,.int .i64 3] W (SO1 W S3) from by
  rw [hS2] at k ⊢
  have h:=sexp_ok vA2 aA2.2 D 15 0 3 W k (by decide)
  rw [←hS3,lpA] at h
  exact h.mono fun e w' ⟨D,A,c,he,hn,hr,_,hb⟩=>⟨D,A,c,he,hn,hr,hb⟩)
 clear hS0 hS1 hS2 hS3
 go_enter Tryz.func21,Tryz.ntmps21
 go_wp2_with fail
 refine (HN.out _).mono ?_
 rintro e w1 ⟨D0,rfl,hn,hr,hb⟩
 have H0:=Lh (SAt.made 33 hb hr)
 clear hn hr hb
 obtain ⟨a,ha⟩:∃ a,a=w1.heap.size:=⟨_,rfl⟩
 obtain ⟨t0,t1,t2,t3,t4,t5,t6,t7,tl⟩:=H0.out.s8.facts
 go_wp2_with fail
 clear t0 t1 t2 t3 t4 t5 t6 t7 tl
 rw [←ha] at H0 ⊢
 clear ha
 generalize w1.alloc (.cells #[.bool S0.lv,.int .i64 S0.lo,.int .i64 S0.hi,.slice D0.A S0.cs.length D0.c,.int .i64 S0.hd,.int .i64 S0.sz,.slice D0.A2 S0.l.length D0.c2,.slice D0.A3 S0.h.length D0.c3] 33)=w2 at*
 refine (HP.out _ _ H0.out.sr).mono ?_
 rintro e w3 ⟨D1,rfl,hn,hr,hb⟩
 have H1:=Lh (H0.out.below hb)
 have H1':=Lh (show SAt w a S1 D1 ((((((((w3.setCell ⟨a,0,none⟩ (.bool S1.lv)).setCell ⟨a,1,none⟩ (.int .i64 S1.lo)).setCell ⟨a,2,none⟩ (.int .i64 S1.hi)).setCell ⟨a,3,none⟩ (.slice D1.A S1.cs.length D1.c)).setCell ⟨a,4,none⟩ (.int .i64 S1.hd)).setCell ⟨a,5,none⟩ (.int .i64 S1.sz)).setCell ⟨a,6,none⟩ (.slice D1.A2 S1.l.length D1.c2)).setCell ⟨a,7,none⟩ (.slice D1.A3 S1.h.length D1.c3)) from H1.out.put hr (hn.off H0.out.lt))
 clear hn hr hb
 obtain ⟨⟨t0,t1,t2,t3,t4,t5,t6,t7,tl⟩,⟨f0,f1,f2,f3,f4,f5,f6,f7⟩⟩:=H1.out.s8.all
 go_wp2_with fail
 clear t0 t1 t2 t3 t4 t5 t6 t7 tl f0 f1 f2 f3 f4 f5 f6 f7
 generalize ((((((((w3.setCell ⟨a,0,none⟩ (.bool S1.lv)).setCell ⟨a,1,none⟩ (.int .i64 S1.lo)).setCell ⟨a,2,none⟩ (.int .i64 S1.hi)).setCell ⟨a,3,none⟩ (.slice D1.A S1.cs.length D1.c)).setCell ⟨a,4,none⟩ (.int .i64 S1.hd)).setCell ⟨a,5,none⟩ (.int .i64 S1.sz)).setCell ⟨a,6,none⟩ (.slice D1.A2 S1.l.length D1.c2)).setCell ⟨a,7,none⟩ (.slice D1.A3 S1.h.length D1.c3))=w4 at*
 refine (HT.out _ _ H1'.out.sr).mono ?_
 rintro e w5 ⟨D2,A2,c2,rfl,hn,hr,hb⟩
 have H2:=Lh (H1'.out.below hb)
 have H2':=Lh (show SAt w a S2 D2 (((((((((w5.setCell ⟨a,0,none⟩ (.bool S2.lv)).setCell ⟨a,1,none⟩ (.int .i64 S2.lo)).setCell ⟨a,2,none⟩ (.int .i64 S2.hi)).setCell ⟨a,3,none⟩ (.slice D2.A S2.cs.length D2.c)).setCell ⟨a,4,none⟩ (.int .i64 S2.hd)).setCell ⟨a,5,none⟩ (.int .i64 S2.sz)).setCell ⟨a,6,none⟩ (.slice D2.A2 S2.l.length D2.c2)).setCell ⟨a,7,none⟩ (.slice D2.A3 S2.h.length D2.c3)).alloc (.cells #[.int .i64 1,.int .i64 1,.int .i64 0,.int .i64 0] 40)) from (H2.out.put hr (hn.off H1'.out.lt)).alloc _)
 have Q2:=Lh (show H4 (((((((((w5.setCell ⟨a,0,none⟩ (.bool S2.lv)).setCell ⟨a,1,none⟩ (.int .i64 S2.lo)).setCell ⟨a,2,none⟩ (.int .i64 S2.hi)).setCell ⟨a,3,none⟩ (.slice D2.A S2.cs.length D2.c)).setCell ⟨a,4,none⟩ (.int .i64 S2.hd)).setCell ⟨a,5,none⟩ (.int .i64 S2.sz)).setCell ⟨a,6,none⟩ (.slice D2.A2 S2.l.length D2.c2)).setCell ⟨a,7,none⟩ (.slice D2.A3 S2.h.length D2.c3)).alloc (.cells #[.int .i64 1,.int .i64 1,.int .i64 0,.int .i64 0] 40)) w5.heap.size ⟨1,1,0,0⟩ from by
  have h:=H4.start ((((((((w5.setCell ⟨a,0,none⟩ (.bool S2.lv)).setCell ⟨a,1,none⟩ (.int .i64 S2.lo)).setCell ⟨a,2,none⟩ (.int .i64 S2.hi)).setCell ⟨a,3,none⟩ (.slice D2.A S2.cs.length D2.c)).setCell ⟨a,4,none⟩ (.int .i64 S2.hd)).setCell ⟨a,5,none⟩ (.int .i64 S2.sz)).setCell ⟨a,6,none⟩ (.slice D2.A2 S2.l.length D2.c2)).setCell ⟨a,7,none⟩ (.slice D2.A3 S2.h.length D2.c3)) ⟨1,1,0,0⟩ 40
  rw [show (((((((((w5.setCell ⟨a,0,none⟩ (.bool S2.lv)).setCell ⟨a,1,none⟩ (.int .i64 S2.lo)).setCell ⟨a,2,none⟩ (.int .i64 S2.hi)).setCell ⟨a,3,none⟩ (.slice D2.A S2.cs.length D2.c)).setCell ⟨a,4,none⟩ (.int .i64 S2.hd)).setCell ⟨a,5,none⟩ (.int .i64 S2.sz)).setCell ⟨a,6,none⟩ (.slice D2.A2 S2.l.length D2.c2)).setCell ⟨a,7,none⟩ (.slice D2.A3 S2.h.length D2.c3))).heap.size=w5.heap.size by simp] at h
  exact h)
 clear hn hr hb
 obtain ⟨⟨t0,t1,t2,t3,t4,t5,t6,t7,tl⟩,⟨f0,f1,f2,f3,f4,f5,f6,f7⟩⟩:=H2.out.s8.all
 go_wp2_with fail
 clear t0 t1 t2 t3 t4 t5 t6 t7 tl f0 f1 f2 f3 f4 f5 f6 f7
 generalize (((((((((w5.setCell ⟨a,0,none⟩ (.bool S2.lv)).setCell ⟨a,1,none⟩ (.int .i64 S2.lo)).setCell ⟨a,2,none⟩ (.int .i64 S2.hi)).setCell ⟨a,3,none⟩ (.slice D2.A S2.cs.length D2.c)).setCell ⟨a,4,none⟩ (.int .i64 S2.hd)).setCell ⟨a,5,none⟩ (.int .i64 S2.sz)).setCell ⟨a,6,none⟩ (.slice D2.A2 S2.l.length D2.c2)).setCell ⟨a,7,none⟩ (.slice D2.A3 S2.h.length D2.c3)).alloc (.cells #[.int .i64 1,.int .i64 1,.int .i64 0,.int .i64 0] 40))=w6 at*
 refine (HX.out _ _ H2'.out.sr).mono ?_
 rintro e w7 ⟨D3,A3,c3,rfl,hn,hr,hb⟩
 have H3:=Lh ((H2'.out.below hb).alloc (.cells #[.bool S3.lv,.int .i64 S3.lo,.int .i64 S3.hi,.slice D3.A S3.cs.length D3.c,.int .i64 S3.hd,.int .i64 S3.sz,.slice D3.A2 S3.l.length D3.c2,.slice D3.A3 S3.h.length D3.c3] 33))
 have Q3:=Lh ((Q2.out.up hb).up ((Below.refl _ _).alloc (Nat.le_refl _) (.cells #[.bool S3.lv,.int .i64 S3.lo,.int .i64 S3.hi,.slice D3.A S3.cs.length D3.c,.int .i64 S3.hd,.int .i64 S3.sz,.slice D3.A2 S3.l.length D3.c2,.slice D3.A3 S3.h.length D3.c3] 33)))
 clear hn hr hb
 obtain ⟨t0,t1,t2,t3,t4,t5,t6,t7,tl⟩:=H3.out.s8.facts
 obtain ⟨q0,q1,q2,q3,ql⟩:=Q3.out
 go_wp2_with fail
 clear t0 t1 t2 t3 t4 t5 t6 t7 tl q0 q1 q2 q3 ql
 refine (HH1.out _ _ H3.out.sr).mono ?_
 rintro e w8 ⟨rfl,hb⟩
 have H4':=Lh (H3.out.below hb)
 have Q4:=Lh (Q3.out.up hb)
 clear hb
 obtain ⟨t0,t1,t2,t3,t4,t5,t6,t7,tl⟩:=H4'.out.s8.facts
 obtain ⟨q0,q1,q2,q3,ql⟩:=Q4.out
 go_wp2_with fail
 clear t0 t1 t2 t3 t4 t5 t6 t7 tl q0 q1 q2 q3 ql
 refine (HH2.out _ _ H4'.out.sr).mono ?_
 rintro e w9 ⟨rfl,hb⟩
 have H5:=Lh (H4'.out.below hb)
 clear hb
 go_wp2
 go_ret
 exact ⟨rfl,H5.out.bel⟩
end Go.Proofs.YtncgbldcjfbknaaGreat
namespace Go.Proofs.YtncgbldcjfbknaaGreat
open Go.RowKit
theorem nat_i64 (a:Nat) (ha:a<9223372036854775808):(BitVec.ofInt 64 (a:Int)).toNat=a:=by
 rw [BitVec.ofInt_natCast,BitVec.toNat_ofNat];exact Nat.mod_eq_of_lt (by omega)
theorem xor_i64 (a b:Nat) (ha:a<9223372036854775808) (hb:b<9223372036854775808):bits .xor .i64 (a:Int) (b:Int)=((a ^^^ b:Nat):Int):=by
 have hx:a ^^^ b<2 ^ 63:=Nat.xor_lt_two_pow (by omega) (by omega)
 show IntKind.i64.wrap ((BitVec.ofInt 64 (a:Int) ^^^ BitVec.ofInt 64 (b:Int)).toNat:Int)=_
 rw [BitVec.toNat_xor,nat_i64 a ha,nat_i64 b hb,IntKind.wrap_i64]
 omega
/-- '&' with a number of k ones. -/
theorem and_ones (n:Int) (k m:Nat) (hk:k≤62) (hm:m=2 ^ k - 1):bits .and .i64 n m=n % 2 ^ k:=by
 have hp:2 ^ k≤2 ^ 62:=Nat.pow_le_pow_right (by omega) hk
 have hp0:0<2 ^ k:=Nat.pow_pos (by omega)
 have h3:(BitVec.ofInt 64 (m:Int)).toNat=2 ^ k - 1:=by rw [nat_i64 m (by omega),hm]
 have key:(BitVec.ofInt 64 n &&&BitVec.ofInt 64 (m:Int)).toNat=(n % ((2 ^ 64:Nat):Int)).toNat % 2 ^ k:=by
  rw [BitVec.toNat_and,BitVec.toNat_ofInt,h3,Nat.and_two_pow_sub_one_eq_mod]
 show IntKind.i64.wrap ((BitVec.ofInt 64 n &&&BitVec.ofInt 64 (m:Int)).toNat:Nat)=n % 2 ^ k
 rw [key,IntKind.wrap_i64]
 have h1:(n % ((2 ^ 64:Nat):Int)).toNat % 2 ^ k<2 ^ k:=Nat.mod_lt _ hp0
 have h2:(((n % ((2 ^ 64:Nat):Int)).toNat % 2 ^ k:Nat):Int)=n % 2 ^ k:=by
  have hd:((2 ^ k:Nat):Int) ∣ ((2 ^ 64:Nat):Int):=Int.natCast_dvd_natCast.2 (Nat.pow_dvd_pow 2 (by omega))
  rw [Int.natCast_emod,Int.toNat_of_nonneg (by omega),Int.emod_emod_of_dvd n hd,Int.natCast_pow]
  rfl
 rw [←h2]
 omega
theorem and_ffff (n:Int):bits .and .i64 n 65535=n % 65536:=and_ones n 16 65535 (by omega) (by omega)
theorem and_ffffffff (n:Int):bits .and .i64 n 4294967295=n % 4294967296:=and_ones n 32 4294967295 (by omega) (by omega)
/-- The hash: its step, and the hash of a list. -/
def fst1 (h b:Nat):Nat:=(h ^^^ b)*16777619 % 4294967296
def fnvOn (h:Nat) (bs:List UInt8):Nat:=bs.foldl (fun h b=>fst1 h b.toNat) h
def fnv (bs:List UInt8):Nat:=fnvOn 2166136261 bs
theorem fst1_lt (h b:Nat):fst1 h b<4294967296:=Nat.mod_lt _ (by decide)
theorem fnvOn_lt (h:Nat) (bs:List UInt8) (hh:h<4294967296):fnvOn h bs<4294967296:=by
 induction bs generalizing h with
 | nil=>exact hh
 | cons b r ih=>exact ih _ (fst1_lt _ _)
theorem fnv_lt (bs:List UInt8):fnv bs<4294967296:=fnvOn_lt _ _ (by decide)
theorem fnv_take (bs:List UInt8) (k:Nat) (h:k<bs.length):fnv (bs.take (k+1))=fst1 (fnv (bs.take k)) bs[k].toNat:=by
 unfold fnv fnvOn
 rw [List.take_succ_eq_append_getElem h,List.foldl_append,List.foldl_cons,List.foldl_nil]
end Go.Proofs.YtncgbldcjfbknaaGreat
namespace Go.Proofs.YtncgbldcjfbknaaGreat
open Go.RowKit
set_option linter.unusedVariables false
theorem rcs_app (a b:List Rn):rcs (a++b)=rcs a++rcs b:=by simp [rcs]
theorem rcs_one (R:List Rn):∀ u∈rcs R,u.oneCell' = true:=by
 intro u hu
 obtain ⟨x,_,h⟩:=List.mem_flatMap.1 hu
 simp only [Rn.l,List.mem_cons,List.not_mem_nil,or_false] at h
 rcases h with rfl | rfl | rfl <;> rfl
theorem info_rn:(Tryz.prog.info? 82).map (fun i=>(i.zero,i.size,i.bytes))=some (some (.agg #[.int .i64 0,.int .i64 0,.int .i64 0]),3,24):=by kernel_rfl
/-- An append to a full list of numbers and ranges, as a step of a region that draws its order. -/
theorem step_append_nl {P:Program} (w:World) {ops:Array Oper} {o:Oper} {a:Act} {K:Act→World→Prop} {Q:Exit→Act→World→Prop} {E:Prop} (hgd:o.guard=none)
  (s x:Operand) (t:TypeId) (hop:o.op=Op.call { callee:=Callee.builtin Builtin.append,args:=#[s,x],argTypes:=#[t,t] })
  (e:TypeId) (i:TypeInfo) (z:Value) (bytes:Nat) (h1:P.underlying t=some (.slice e)) (h2:P.info? e=some i) (h3:i.zero=some z) (h4:i.size=3) (h5:i.bytes=bytes) (h6:z.cells.size=3)
  (B:Nat) (A:Option Addr) (R R2:List Rn) (hs:a.eval s=.slice A R.length R.length) (hn:Nl w B (.slice A R.length R.length) R) (h0:A=none→R=[])
  (ad:Addr) (cx:Nat) (hx:a.eval x=.slice (some ad) R2.length cx) (hc:∀ j u,(rcs R2)[j]? = some u→w.cell? (ad.add j)=some u) (hm:0<R2.length)
  (b1:R.length+R2.length≤maxLen) (b2:(R.length+R2.length)*bytes≤140737488355328)
  (h:∀ v' w',Nl w' w'.heap.size v' (R++R2)→w.grownBy w' none→K (a.put o.dst v') w') :
  if Region.wanted o (yielded ops a.tmps)=true then Oper.wp P o a w K Q else E:=by
 have hwt:Region.wanted o (yielded ops a.tmps)=true:=by simp [Region.wanted,hgd]
 rw [if_pos hwt]
 have hown:∀ v' w',w'.ownsRow w.heap.size e 3 v' (R.length+R2.length) (rcs R++rcs R2)→Nl w' w'.heap.size v' (R++R2):=fun v' w' ho=>by
  rw [←rcs_app] at ho
  obtain ⟨A',c',rfl⟩:=own_form ho
  have hr:=Rd.of_own ho
  have hcap:R.length+R2.length≤c'∧c'≤maxLen:=by
   rcases ho.2 with ⟨hv,h0⟩ | ⟨g,cap,cur,hv,_,_,hl,hm',_⟩
   ·omega
   ·injection hv with e1 e2 e3;subst e3;exact ⟨hl,hm'⟩
  exact ⟨A',c',by rw [List.length_append],by rw [List.length_append];exact hcap.1,hcap.2,by rw [List.length_append];exact hr⟩
 cases A with
 | some b=>
  obtain ⟨A',c',e',k1,k2,hr⟩:=hn
  injection e' with e1 _ e3
  subst e1
  have hold:∀ j u,(rcs R)[j]? = some u→w.cell? (b.add j)=some u:=fun j u hu=>by
   have hlt:=(List.getElem?_eq_some_iff.1 hu).1
   rw [rcs_len] at hlt
   obtain ⟨b',o',e2,_,hc'⟩:=hr.2 (by omega)
   injection e2 with e2
   subst e2
   rw [add_mk]
   exact hc' j u hu
  obtain ⟨v',w',hrun,r1,r2⟩:=run_append_arg_grows (P:=P) w t o.type e i z 3 bytes h1 h2 h3 h4 h5 h6 (by omega) b R.length R.length (rcs R) (rcs_len R) hold ad R2.length cx (rcs R2) (rcs_len R2) hc (by omega) b1 b2
  unfold Oper.wp
  simp [execOp,hop,resolve,invoke,builtin,hs,hx,hrun,Result.andThen]
  exact h _ _ (hown v' w' r1) r2
 | none=>
  have hR:=h0 rfl
  subst hR
  obtain ⟨v',w',hrun,r1,r2,_⟩:=run_append_own (P:=P) w w.heap.size t o.type e i z 3 bytes h1 h2 h3 h4 h5 h6 (by omega) (.slice none 0 0) 0 [] (World.ownsRow_nil w _ e 3) ad R2.length cx (rcs R2) (rcs_len R2) hc (rcs_one R2) b1 b2 (Nat.le_refl _)
  unfold Oper.wp
  simp at hs
  simp [execOp,hop,resolve,invoke,builtin,hs,hx,hrun,Result.andThen]
  exact h _ _ (hown v' w' (by simpa [rcs] using r1)) r2
theorem rn_two (w:World) (a b:Rn) (t:TypeId):∀ j u,(rcs [a,b])[j]? = some u→(w.alloc (.cells #[.int .i64 a.n,.int .i64 a.lo,.int .i64 a.hi,.int .i64 b.n,.int .i64 b.lo,.int .i64 b.hi] t)).cell? ((⟨w.heap.size,0,none⟩:Addr).add j)=some u:=fun j u hu=>by
 rw [add_mk,Nat.zero_add,World.cell?_alloc_new]
 simpa [rcs,Rn.l] using hu
theorem below_none {W W' : World} (h:W.grownBy W' none):Below W.heap.size W W':=(Below.refl _ _).grown h (Nat.le_refl _) (fun k e=>by cases e)
/-- The error of a function that settles a lease. -/
noncomputable def heS (S:Sh) (H:Hn) (now ep:Int) (b:Bool):Int:=if exS S (b&&(wi now 0 1073741824&&wi ep 0 65536))≠0 then exS S (b&&(wi now 0 1073741824&&wi ep 0 65536)) else if hoF S H now ep=true then 0 else 5
set_option maxHeartbeats 8000000 in
set_option maxRecDepth 20000 in
theorem sherr_any (S:Sh) (D:Sx) (H:Hn) (now ep:Int) (A:Option Addr) (R:List Rn) (w:World) (hs:SR w w.heap.size S D) (hn:Nl w w.heap.size (.slice A R.length R.length) R) (h0:A=none→R=[]) (h100:R.length≤100) :
  Calls Tryz.prog 50 #[sv S D,H.v,.int .i64 now,.int .i64 ep,.slice A R.length R.length] w (VlT w (heS S H now ep (R.all Rn.ok))):=by
 obtain ⟨i0,hi0,hz0⟩:=Option.map_eq_some_iff.1 info_rn
 simp only [Prod.mk.injEq] at hz0
 have HI:=Lh hi0
 have HZ:=Lh hz0
 have H0:=Lh ((SAt.start 33 hs).alloc (.cells #[.int .i64 H.id,.int .i64 H.gn,.int .i64 H.rt,.int .i64 H.ht] 40))
 have Q0:=Lh (H4.start (w.alloc (.cells #[.bool S.lv,.int .i64 S.lo,.int .i64 S.hi,.slice D.A S.cs.length D.c,.int .i64 S.hd,.int .i64 S.sz,.slice D.A2 S.l.length D.c2,.slice D.A3 S.h.length D.c3] 33)) H 40)
 have HV:=Lh (fun A c p W (k:SAt w p S D W) (hn:Nl W W.heap.size (.slice A (R.length+2) c) (R++[⟨now,0,1073741824⟩,⟨ep,0,65536⟩]))=>sexam_any S D A (R.length+2) c (R++[⟨now,0,1073741824⟩,⟨ep,0,65536⟩]) W k.sr hn)
 have HE:(R++[⟨now,0,1073741824⟩,⟨ep,0,65536⟩]:List Rn).all Rn.ok=(R.all Rn.ok&&(wi now 0 1073741824&&wi ep 0 65536)):=by simp [Rn.ok]
 rw [HE] at HV
 clear HE
 have HNL:=Lh hn
 have HA0:=Lh h0
 have HT:=Lh (fun W=>atime_any now W)
 have HP:=Lh (fun W=>aepoch_any ep W)
 have HHO:=Lh (fun p W (k:SAt w p S D W)=>sholds_any S D H now ep W k.sr)
 have HDD:Hid (heS S H now ep (R.all Rn.ok)=if exS S (R.all Rn.ok&&(wi now 0 1073741824&&wi ep 0 65536))≠0 then exS S (R.all Rn.ok&&(wi now 0 1073741824&&wi ep 0 65536)) else if hoF S H now ep=true then 0 else 5):=Lh rfl
 have H100:=Lh h100
 clear hs hn h0 h100 hi0 hz0
 generalize exS S (R.all Rn.ok&&(wi now 0 1073741824&&wi ep 0 65536))=z at*
 generalize hoF S H now ep=ho at*
 generalize heS S H now ep (R.all Rn.ok)=x at*
 go_enter Tryz.func50,Tryz.ntmps50
 obtain ⟨p,hp⟩:∃ p,p=w.heap.size:=⟨_,rfl⟩
 obtain ⟨q,hq⟩:∃ q,q=w.heap.size+1:=⟨_,rfl⟩
 have e1:(w.alloc (.cells #[.bool S.lv,.int .i64 S.lo,.int .i64 S.hi,.slice D.A S.cs.length D.c,.int .i64 S.hd,.int .i64 S.sz,.slice D.A2 S.l.length D.c2,.slice D.A3 S.h.length D.c3] 33)).heap.size=q:=by rw [hq];simp
 rw [e1] at Q0
 rw [←hp] at H0
 clear e1
 go_upto_region 1 with (fail)
 rw [←hq,←hp]
 clear hp hq
 generalize ((w.alloc (.cells #[.bool S.lv,.int .i64 S.lo,.int .i64 S.hi,.slice D.A S.cs.length D.c,.int .i64 S.hd,.int .i64 S.sz,.slice D.A2 S.l.length D.c2,.slice D.A3 S.h.length D.c3] 33)).alloc (.cells #[.int .i64 H.id,.int .i64 H.gn,.int .i64 H.rt,.int .i64 H.ht] 40))=w1 at*
 have HD:=Lh H0.out.drew
 have Q1:=Lh (Q0.out.up ((Below.refl _ _).drew))
 have HT0:=Lh (show K8 p S D w1.drew from HD.out.k8)
 go_region_held3 (fun W=>K8 p S D W)
  (first | with_reducible exact HT0.out | with_reducible exact HT1.out | with_reducible exact HT2.out | with_reducible exact HT3.out | with_reducible exact HT4.out | with_reducible exact HT5.out)
  (first
  | (go_at_call 41;(with_reducible refine (HT.out _).mono ?_);rintro e w3 ⟨rfl,hb⟩;have HA1:=Lh (HD.out.below hb);have Q2:=Lh (Q1.out.up hb);have HT1:=Lh HA1.out.k8;clear hb)
  | (go_at_call 43;(with_reducible refine (HP.out _).mono ?_);rintro e w4 ⟨rfl,hb⟩;have HA2:=Lh (HA1.out.below hb);have Q3:=Lh (Q2.out.up hb);have HT2:=Lh HA2.out.k8;have HA3:=Lh (HA2.out.alloc (.cells #[.int .i64 now,.int .i64 0,.int .i64 1073741824,.int .i64 ep,.int .i64 0,.int .i64 65536] 82));have Q4:=Lh (Q3.out.up ((Below.refl _ _).alloc (Nat.le_refl _) (.cells #[.int .i64 now,.int .i64 0,.int .i64 1073741824,.int .i64 ep,.int .i64 0,.int .i64 65536] 82)));have HT3:=Lh HA3.out.k8;have HN3:=Lh (HNL.out.below HA3.out.bel);have HCX:=Lh (rn_two w4 ⟨now,0,1073741824⟩ ⟨ep,0,65536⟩ 82);clear hb)
  | (go_at_call 40;(with_reducible refine (HV.out _ _ _ _ HA5.out HN5.out).mono ?_);rintro e w6 ⟨rfl,hb⟩;have HA6:=Lh (HA5.out.below hb);have Q6:=Lh (Q5.out.up hb);have HT5:=Lh HA6.out.k8;clear hb)
  | ((refine step_append_nl _ (by rfl) _ _ _ (by rfl) 82 i0 _ 24 Tryz.underlying117 HI.out HZ.out.1 HZ.out.2.1 HZ.out.2.2 rfl w.heap.size A R [⟨now,0,1073741824⟩,⟨ep,0,65536⟩] (by rfl) HN3.out HA0.out ⟨w4.heap.size,0,none⟩ 2 (by rfl) HCX.out (by simp) (by have:=H100.out;unfold maxLen;simp;omega) (by have:=H100.out;simp;omega) ?_);intro v5 w5 hnl hgr;have HA5:=Lh (HA3.out.grown hgr (fun q e=>by cases e));have Q5:=Lh (Q4.out.up (below_none hgr));have HT4:=Lh HA5.out.k8;obtain ⟨A5,c5,hv5,_,_,_⟩:=id hnl;subst hv5;have HN5:=Lh (show Nl w5 w5.heap.size (.slice A5 (R.length+2) c5) (R++[⟨now,0,1073741824⟩,⟨ep,0,65536⟩]) by simpa using hnl);clear hnl hgr))
 have HD6:=Lh (show x=if z≠0 then z else if ho=true then 0 else 5 from HDD.out)
 clear HD HT0 HT1 HT2 HT3 HT4 HT5 HA1 HA2 HA3 HA5 HNL HT HP HV H0 Q0 Q1 Q2 Q3 Q4 Q5 HDD H100
 by_cases hz:z=0
 ·subst hz
  obtain ⟨t0,t1,t2,t3,t4,t5,t6,t7,tl⟩:=HA6.out.s8.facts
  obtain ⟨q0,q1,q2,q3,ql⟩:=Q6.out
  go_wp2_with fail
  clear t0 t1 t2 t3 t4 t5 t6 t7 tl q0 q1 q2 q3 ql
  refine (HHO.out _ _ HA6.out).mono ?_
  rintro e w7 ⟨rfl,hb⟩
  have HA7:=Lh (HA6.out.below hb)
  clear hb
  cases ho
  ·obtain rfl:x=5:=by rw [HD6.out];rfl
   have HF:=Lh (show VlT w 5 (.returned (.int .i64 5)) w7 from ⟨rfl,HA7.out.bel⟩)
   go_wp2
   exact bodyPost_ret (v:=.int .i64 5) (by simp only [results,Tryz.results50];go_simp <;> rfl) rfl HF.out
  ·obtain rfl:x=0:=by rw [HD6.out];rfl
   have HF:=Lh (show VlT w 0 (.returned (.int .i64 0)) w7 from ⟨rfl,HA7.out.bel⟩)
   go_wp2
   exact bodyPost_ret (v:=.int .i64 0) (by simp only [results,Tryz.results50];go_simp <;> rfl) rfl HF.out
 ·have hne:(z != 0)=true:=bne_iff_ne.2 hz
  obtain rfl:x=z:=by rw [HD6.out,if_pos hz]
  clear hz
  have HF:=Lh (show VlT w x (.returned (.int .i64 x)) w6 from ⟨rfl,HA6.out.bel⟩)
  go_wp2
  exact bodyPost_ret (v:=.int .i64 x) (by simp only [results,Tryz.results50];go_simp <;> rfl) rfl HF.out
end Go.Proofs.YtncgbldcjfbknaaGreat
