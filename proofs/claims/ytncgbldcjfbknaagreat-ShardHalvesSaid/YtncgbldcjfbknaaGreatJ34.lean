/- What is proved here: what the five steps of ShardConserves give; shardqueueref07.Ready, Leased, All by contracts; the law's ids by a contract; Odd of the statements' base returns some message with a short body; the law's some returns some numbers. -/
import Derived.Test.YtncgbldcjfbknaaGreatJ33
namespace Go.Proofs.YtncgbldcjfbknaaGreat
open Go.RowKit
set_option linter.unusedVariables false
/-- The IDs before and behind a step: the same (g = 0), or one less (g = 1): the place of the later list for each place of the earlier. -/
def CsR (Bf Af:List Int) (g id:Int):Prop:=(Af.length:Int)=Bf.length - g∧(g=0∨g=1)∧∃ kk:Nat→Nat,kk 0=0∧∀ j (hj:j<Bf.length),(∃ h:kk j<Af.length,Af[kk j]=Bf[j]∧kk (j+1)=kk j+1)∨((∀ h:kk j<Af.length,Af[kk j]≠Bf[j])∧g=1∧Bf[j]=id∧kk (j+1)=kk j)
theorem csr_same (l:List Int) (id:Int):CsR l l 0 id:=⟨by omega,.inl rfl,fun j=>j,rfl,fun j hj=>.inl ⟨hj,rfl,rfl⟩⟩
theorem csr_one {O:List Int} {id:Int} (h:id∉O):CsR (insI id O) O 1 id:=by
 refine ⟨by rw [insI_len];omega,.inr rfl,fun j=>if j≤insA id O then j else j - 1,by simp,fun j hj=>?_⟩
 rcases insI_at hj with ⟨h1,h2,e⟩ | ⟨h1,e⟩ | ⟨h1,h2,e⟩
 ·left
  refine ⟨by simp only;rw [if_pos (by omega)];exact h1,?_,by simp only;rw [if_pos (by omega),if_pos (by omega)]⟩
  simp only [if_pos (show j≤insA id O by omega)]
  exact e.symm
 ·right
  refine ⟨fun g=>?_,rfl,e,by simp only;rw [if_neg (by omega),if_pos (by omega)];omega⟩
  rw [e]
  exact fun c=>h (c ▸ List.getElem_mem _)
 ·left
  refine ⟨by simp only;rw [if_neg (by omega)];exact h1,?_,by simp only;rw [if_neg (by omega),if_neg (by omega)];omega⟩
  simp only [if_neg (show ¬j≤insA id O by omega)]
  exact e.symm
/-- What a step gives if it gives no error. -/
def CsQ (S T:Sh) (x g id:Int):Prop:=x=0→shV T=0∧SrSh T∧CsR (idsF S.al) (idsF T.al) g id
theorem csq_err {S T:Sh} {x g id:Int} (h:x≠0):CsQ S T x g id:=fun e=>absurd e h
theorem csq_same {V V' : Vs} {x:Int} (id:Int) (k:V.Ok) (k' : V'.Ok) (h:(V'.al.map Msg.id).Perm (V.al.map Msg.id)):CsQ V.sh V'.sh x 0 id:=fun _=>
 ⟨k'.va,.inl ⟨V',k',rfl⟩,by rw [k.al_sh,k'.al_sh,idsF_same h];exact csr_same _ _⟩
theorem csq_one {V V' : Vs} {x:Int} {M:Msg} (k:V.Ok) (k' : V'.Ok) (h:V.al.Perm (M::V'.al)):CsQ V.sh V'.sh x 1 M.id:=fun _=>by
 refine ⟨k'.va,.inl ⟨V',k',rfl⟩,?_⟩
 have g:=gd_cons.1 (gd_perm h k.gd)
 rw [k.al_sh,k'.al_sh,idsF_one (x:=M.id) (L':=V'.al) (by have:=h.map Msg.id;simpa using this)]
 refine csr_one fun hm=>?_
 obtain ⟨N,hN,e⟩:=List.mem_map.1 ((idsF_perm V'.al).subset hm)
 exact g.2.2 N hN e
section
variable {V:Vs} {H:Hn} {now ep lim vis dl id:Int} {mx:Nat}
theorem rl_mem (k:V.Ok) (h:∃ y∈V.l,y.id=id):rlE V.l V.h id=0:=by
 have:=kFi_ge.2 h
 unfold rlE
 rw [if_neg (by simpa using (tbV_iff _ _).2 k.tb),if_neg (by omega)]
theorem fn_rl (h:fnO V.l V.h id=true):rlE V.l V.h id=0:=by
 have h:=of_decide_eq_true h
 unfold rlE
 rw [if_neg (by simpa using h.1),if_neg (by omega)]
theorem he_rl {S:Sh} {b:Bool} (h:heS S H now ep b=0):fnO S.l S.h H.id=true:=by
 unfold heS at h
 by_cases h0:exS S (b&&(wi now 0 1073741824&&wi ep 0 65536))=0
 ·rw [if_neg (by simpa using h0)] at h
  by_cases h1:hoF S H now ep=true
  ·unfold hoF at h1
   simp only [Bool.and_eq_true] at h1
   exact h1.2.1
  ·rw [if_neg h1] at h;exact absurd h (by decide)
 ·rw [if_pos h0] at h;exact absurd h h0
theorem back_perm (k:V.Ok) (e:rlE V.l V.h id=0):((((V.rel id).push (rlM V.l V.h id)).al).map Msg.id).Perm (V.al.map Msg.id):=
 ((push_al _ _).trans (k.rel e).2.1.symm).map _
theorem cs_nack (k:V.Ok) (h:heS V.sh H now ep (wi lim 1 8)=0):∃ V' : Vs,V'.Ok∧gbN V.sh H.id lim=V'.sh∧(V'.al.map Msg.id).Perm (V.al.map Msg.id):=by
 have e:rlE V.l V.h H.id=0:=fn_rl (he_rl h)
 obtain ⟨g1,g2⟩:=gbN_sh (lim:=lim) k e
 refine ⟨_,g2,g1,?_⟩
 by_cases hs:spF (rlM V.l V.h H.id) lim=true
 ·rw [if_pos hs];exact back_perm k e
 ·rw [if_neg hs,front_al];exact ((k.rel e).2.1.symm).map _
theorem cs_ack (k:V.Ok) (h:heS V.sh H now ep true=0):∃ (V' : Vs) (M:Msg),V'.Ok∧akF V.sh H.id=V'.sh∧V.al.Perm (M::V'.al)∧M.id=H.id:=by
 have e:rlE V.l V.h H.id=0:=fn_rl (he_rl h)
 obtain ⟨k1,k2,k3,-,-⟩:=k.rel e
 exact ⟨V.rel H.id,_,k1,rfl,k2,k3⟩
theorem cs_chg (k:V.Ok) (h:chgE V.sh H now ep vis=0):∃ V' : Vs,V'.Ok∧chgF V.sh H.id (now+vis)=V'.sh∧V'.al=V.al:=by
 unfold chgE at h
 by_cases h0:heS V.sh H now ep (wi vis 0 1000)=0
 ·rw [if_neg (by simpa using h0)] at h
  by_cases h1:1073741824<now+vis
  ·rw [if_pos h1] at h;exact absurd h (by decide)
  ·have f:=of_decide_eq_true (he_rl h0)
   obtain ⟨n1,n2,-,-⟩:=he_nums h0
   have hv:=wi_of n1
   have e:exE V.l V.h H.id (now+vis)=0:=by
    unfold exE
    rw [if_neg (show ¬tbV V.l V.h≠0 from fun g=>g f.1),if_neg (show ¬kFi Le.id V.l H.id<0 from Int.not_lt.2 f.2),if_neg (by omega)]
   obtain ⟨k1,k2,-⟩:=k.ext e
   exact ⟨V.ext H.id (now+vis),k1,rfl,k2⟩
 ·rw [if_pos h0] at h;exact absurd h h0
theorem xp_cons (S:Sh) (x:Int) (ids:List Int):xpF S (x::ids)=xpF (gbB S x) ids:=rfl
theorem xp_ok:∀ (ids:List Int) (V:Vs),V.Ok→ids.Nodup→(∀ x∈ids,∃ y∈V.l,y.id=x)→∃ V' : Vs,V'.Ok∧xpF V.sh ids=V'.sh∧(V'.al.map Msg.id).Perm (V.al.map Msg.id)
 | [],V,k,_,_=>⟨V,k,rfl,List.Perm.refl _⟩
 | x::ids,V,k,hn,hm=>by
  have hn:=List.nodup_cons.1 hn
  have e:=rl_mem k (hm x (List.mem_cons_self ..))
  obtain ⟨g1,g2⟩:=gbB_sh k e
  obtain ⟨V',k',e',p'⟩:=xp_ok ids ((V.rel x).push (rlM V.l V.h x)) g2 hn.2 (fun z hz=>by
   obtain ⟨y,hy,hi⟩:=hm z (List.mem_cons_of_mem _ hz)
   refine ⟨y,?_,hi⟩
   show y∈rlL V.l V.h x
   obtain ⟨t,j,hj,-,e2,-,hL,-⟩:=rlE_at e
   rw [hL]
   obtain ⟨i,hi',rfl⟩:=List.getElem_of_mem hy
   refine List.mem_eraseIdx_iff_getElem.2 ⟨i,hi',fun c=>?_,rfl⟩
   subst c
   rw [←hi,e2] at hz
   exact hn.1 hz)
  refine ⟨V',k',by rw [xp_cons,g1];exact e',p'.trans (back_perm k e)⟩
theorem la_facts {l:List Le} {h:List Du} (t:TbOk l h):(laV l h now ep).Nodup∧∀ x∈laV l h now ep,∃ y∈l,y.id=x:=by
 rw [t.lav]
 have hh:Hp h:=(vaF_zero t.va).2.2.2
 have p:=unF_perm h now hh
 have hn:(unF h now).Nodup:=p.symm.nodup ((vaF_ids t.va).sublist (List.Sublist.map _ List.filter_sublist))
 refine ⟨hn.sublist List.filter_sublist,fun x hx=>?_⟩
 have hx:=(List.mem_filter.1 hx).1
 obtain ⟨d,hd,-,e⟩:=(unF_mem hh now x).1 hx
 obtain ⟨y,hy,e2⟩:=List.mem_map.1 (t.perm.subset hd)
 exact ⟨y,hy,by rw [←e,←e2];rfl⟩
theorem cs_exp (k:V.Ok):∃ V' : Vs,V'.Ok∧xpF V.sh (laV V.l V.h now ep)=V'.sh∧(V'.al.map Msg.id).Perm (V.al.map Msg.id):=
 xp_ok _ V k (la_facts k.tb).1 (la_facts k.tb).2
theorem cs_take (k:V.Ok) (hl:lim≤8) (d0:0≤dl) (d1:dl≤1073741824) :
  (V.take mx (fun M=>rvF M ep lim) dl).Ok∧((V.take mx (fun M=>rvF M ep lim) dl).al.map Msg.id).Perm (V.al.map Msg.id):=by
 obtain ⟨s1,s2,s3⟩:=pk_sub mx (fun M=>rvF M ep lim) V.L
 have pp:=pk_permL mx (fun M=>rvF M ep lim) V.L
 unfold Vs.take
 generalize (pk mx (fun M=>rvF M ep lim) V.L).1=T at*
 generalize (pk mx (fun M=>rvF M ep lim) V.L).2=R at*
 have hd:∀ M∈T,vf (dlM M)=0∧(dlM M).id=M.id∧(dlM M).rt=M.rt∧(dlM M).ep=M.ep∧1≤(dlM M).gn:=fun M hM=>dl_facts (k.gL.1 M (s2.subset hM)) (s3 M hM) hl
 have k1:=ring_ok k s1
 have hp:V.al.Perm (T++(V.ring R).al):=by
  show (V.L++V.l.map Le.m).Perm (T++(R++V.l.map Le.m))
  rw [←List.append_assoc]
  exact pp.symm.append_right _
 have g:=gd_perm hp k.gd
 have hg:Gd (T.map dlM++(V.ring R).al):=by
  refine ⟨fun M hM=>?_,(dup_pair _).2 ?_⟩
  ·rcases List.mem_append.1 hM with h | h
   ·obtain ⟨N,hN,rfl⟩:=List.mem_map.1 h
    exact (hd N hN).1
   ·exact g.1 M (List.mem_append_right _ h)
  ·have p:=(dup_pair _).1 g.2
   rw [List.pairwise_append] at p ⊢
   refine ⟨List.pairwise_map.2 (p.1.imp_of_mem fun {a b} ha hb hab=>by rw [(hd a ha).2.1,(hd b hb).2.1];exact hab),p.2.1,fun a ha b hb=>?_⟩
   obtain ⟨N,hN,rfl⟩:=List.mem_map.1 ha
   rw [(hd N hN).2.1]
   exact p.2.2 N hN b hb
 have hlen:=pp.length_eq
 rw [List.length_append] at hlen
 obtain ⟨o1,o2,-⟩:=grs_ok (dl:=dl) T (V.ring R) k1 hg (fun M hM=>by rw [(hd M hM).2.2.1];exact k.own M (List.mem_append_left _ (s2.subset hM))) (by show R.length+V.l.length+T.length≤V.n;have:=k.room;omega) (fun M hM=>⟨(hd M hM).1,by have:=(hd M hM).2.2.2.2;show (dlM M).gn≠0;omega,d0,d1⟩)
 refine ⟨o1,(o2.map _).trans (List.Perm.trans ?_ (hp.symm.map Msg.id))⟩
 have e:(T.map dlM).map Msg.id=T.map Msg.id:=by
  rw [List.map_map]
  exact List.map_congr_left fun M hM=>(hd M hM).2.1
 rw [List.map_append,List.map_append,e]
end
/-- The sizes of a valid shard. -/
theorem sz4_of {V:Vs} (k:V.Ok):V.sh.sz4:=by
 have h1:V.sh.cs.length=V.n:=fil_len _ _ _
 have:=k.n1
 have:=k.n2
 have h3:V.sh.l.length≤12:=k.tb.len
 have h4:V.sh.h.length≤12:=by have:=k.tb.hlen;have:=k.tb.len;show V.h.length≤12;omega
 exact ⟨by omega,by omega,by omega,by omega⟩
theorem sr_len {S:Sh} (h:SrSh S):S.l.length≤1000:=by
 rcases h with ⟨V,k,rfl⟩ | ⟨k,_,_,rfl⟩
 ·exact (sz4_of k).2.2.1
 ·show ([]:List Le).length≤1000;simp
/-- A step that gives a shard and an error. -/
def CsP (S:Sh) (g id:Int) (w:World) (e:Ending) (w' : World):Prop:=∃ (T:Sh) (D:Sx) (x:Int),e=.returned (.tuple #[sv T D,.int .i64 x])∧D.nw w.heap.size∧SR w' w'.heap.size T D∧Below w.heap.size w w'∧CsQ S T x g id
/-- A step that gives a shard, a list and an error. -/
def CsL (S:Sh) (g id:Int) (w:World) (e:Ending) (w' : World):Prop:=∃ (T:Sh) (D:Sx) (A:Option Addr) (n c:Nat) (x:Int),e=.returned (.tuple #[sv T D,.slice A n c,.int .i64 x])∧D.nw w.heap.size∧SR w' w'.heap.size T D∧Below w.heap.size w w'∧CsQ S T x g id
section
variable {S:Sh} {D:Sx} {w:World}
theorem csp_of {T:Sh} {x g id:Int} {e:Ending} {w' : World} (h:SE w T x e w') (q:CsQ S T x g id):CsP S g id w e w':=by
 obtain ⟨E,h1,h2,h3,h4⟩:=h
 exact ⟨T,E,x,h1,h2,h3,h4,q⟩
theorem csl_of {T:Sh} {l:List Le} {x g id:Int} {e:Ending} {w' : World} (h:SLe w T l x e w') (q:CsQ S T x g id):CsL S g id w e w':=by
 obtain ⟨E,A,c,h1,h2,h3,-,-,h4⟩:=h
 exact ⟨T,E,A,_,c,x,h1,h2,h3,h4,q⟩
theorem csi_of {T:Sh} {l:List Int} {x g id:Int} {e:Ending} {w' : World} (h:SIe w T l x e w') (q:CsQ S T x g id):CsL S g id w e w':=by
 obtain ⟨E,A,c,h1,h2,h3,-,h4⟩:=h
 exact ⟨T,E,A,_,c,x,h1,h2,h3,h4,q⟩
theorem st_take (h:SrSh S) (mx now vis ep lim id:Int) (hs:SR w w.heap.size S D):Calls Tryz.prog 15 #[sv S D,.int .i64 mx,.int .i64 now,.int .i64 vis,.int .i64 ep,.int .i64 lim] w (CsL S 0 id w):=by
 by_cases hE:tkE S mx now vis ep lim=0
 ·unfold tkE at hE
  by_cases h0:exS S (tkB mx now vis ep lim)=0
  ·rw [if_neg (fun g=>g h0)] at hE
   by_cases h1:1073741824<now+vis
   ·rw [if_pos h1] at hE;exact absurd hE (by decide)
   ·obtain ⟨-,-,hB⟩:=exS_zero h0
    rcases h with ⟨V,k,rfl⟩ | ⟨n,n1,n2,rfl⟩
    ·have hB':=hB
     unfold tkB at hB'
     simp only [Bool.and_eq_true] at hB'
     have m:=wi_of hB'.2.2.2.2
     have li:=wi_of hB'.2.2.2.1
     have n:=wi_of hB'.1
     have v:=wi_of hB'.2.1
     obtain ⟨m',hm⟩:=Int.eq_ofNat_of_zero_le (show 0≤mx by omega)
     have hm:mx=(m' : Int):=hm
     subst hm
     obtain ⟨k3,p3⟩:=cs_take (mx:=m') (ep:=ep) (dl:=now+vis) k li.2 (by omega) (by omega)
     exact (stake_ok V k D m' now vis ep lim w hs hB (by omega)).mono fun e w' q=>csl_of q (csq_same id k k3 p3)
    ·rw [fr_ex n1 n2] at h0;exact absurd h0 (by decide)
  ·rw [if_pos h0] at hE;exact absurd hE h0
 ·exact (stake_bad S D mx now vis ep lim w hs hE).mono fun e w' q=>csl_of q (csq_err hE)
theorem st_nack (h:SrSh S) (H:Hn) (now ep lim id:Int) (hs:SR w w.heap.size S D):Calls Tryz.prog 16 #[sv S D,H.v,.int .i64 now,.int .i64 ep,.int .i64 lim] w (CsP S 0 id w):=by
 refine (snack_any S D H now ep lim w hs).mono fun e w' q=>csp_of q ?_
 by_cases h0:heS S H now ep (wi lim 1 8)=0
 ·rw [if_pos h0,h0]
  rcases h with ⟨V,k,rfl⟩ | ⟨n,n1,n2,rfl⟩
  ·obtain ⟨V',k',e',p'⟩:=cs_nack k h0
   rw [e'];exact csq_same id k k' p'
  ·have:=(he_nums h0).2.2.2
   rw [fr_ex n1 n2] at this;exact absurd this (by decide)
 ·exact csq_err h0
theorem st_ack (h:SrSh S) (H:Hn) (now ep:Int) (hs:SR w w.heap.size S D):Calls Tryz.prog 19 #[sv S D,H.v,.int .i64 now,.int .i64 ep] w (CsP S 1 H.id w):=by
 refine (sack_any S D H now ep w hs (fun h0=>?_)).mono fun e w' q=>csp_of q ?_
 ·rcases h with ⟨V,k,rfl⟩ | ⟨n,n1,n2,rfl⟩
  ·exact sz4_of k
  ·have:=(he_nums h0).2.2.2
   rw [fr_ex n1 n2] at this;exact absurd this (by decide)
 ·by_cases h0:heS S H now ep true=0
  ·rw [if_pos h0,h0]
   rcases h with ⟨V,k,rfl⟩ | ⟨n,n1,n2,rfl⟩
   ·obtain ⟨V',M,k',e',p',hi⟩:=cs_ack k h0
    rw [e',←hi];exact csq_one k k' p'
   ·have:=(he_nums h0).2.2.2
    rw [fr_ex n1 n2] at this;exact absurd this (by decide)
  ·exact csq_err h0
theorem st_chg (h:SrSh S) (H:Hn) (now ep vis id:Int) (hs:SR w w.heap.size S D):Calls Tryz.prog 17 #[sv S D,H.v,.int .i64 now,.int .i64 ep,.int .i64 vis] w (CsP S 0 id w):=by
 refine (schange_any S D H now ep vis w hs (fun h0=>?_)).mono fun e w' q=>csp_of q ?_
 ·rcases h with ⟨V,k,rfl⟩ | ⟨n,n1,n2,rfl⟩
  ·exact sz4_of k
  ·have:=(he_nums h0).2.2.2
   rw [fr_ex n1 n2] at this;exact absurd this (by decide)
 ·by_cases h0:chgE S H now ep vis=0
  ·rw [if_pos h0,h0]
   rcases h with ⟨V,k,rfl⟩ | ⟨n,n1,n2,rfl⟩
   ·obtain ⟨V',k',e',p'⟩:=cs_chg k h0
    rw [e'];exact csq_same id k k' (by rw [p'])
   ·unfold chgE at h0
    by_cases h1:heS (frS n) H now ep (wi vis 0 1000)=0
    ·have:=(he_nums h1).2.2.2
     rw [fr_ex n1 n2] at this;exact absurd this (by decide)
    ·rw [if_pos h1] at h0;exact absurd h0 h1
  ·exact csq_err h0
theorem st_exp (h:SrSh S) (now ep lim id:Int) (hs:SR w w.heap.size S D):Calls Tryz.prog 18 #[sv S D,.int .i64 now,.int .i64 ep,.int .i64 lim] w (CsL S 0 id w):=by
 by_cases hE:exS S (xpB now ep lim)=0
 ·obtain ⟨-,-,hB⟩:=exS_zero hE
  rcases h with ⟨V,k,rfl⟩ | ⟨n,n1,n2,rfl⟩
  ·obtain ⟨V',k',e',p'⟩:=cs_exp (now:=now) (ep:=ep) k
   exact (sexp_ok V k D now ep lim w hs hB).mono fun e w' q=>csi_of (by rw [e'] at q;exact q) (csq_same id k k' p')
  ·rw [fr_ex n1 n2] at hE;exact absurd hE (by decide)
 ·exact (sexp_bad S D now ep lim w hs hE).mono fun e w' q=>csi_of q (csq_err hE)
end
/-- A list as a result. -/
def LsR (l:List Msg) (w:World) (e:Ending) (w' : World):Prop:=∃ A c,e=.returned (.slice A l.length c)∧Ls w' w'.heap.size (.slice A l.length c) l∧Below w.heap.size w w'
theorem Ls.upz {W W' : World} {L:List Msg} {v:Value} (h:Ls W W.heap.size v L) (hb:Below W.heap.size W W'):Ls W' W'.heap.size v L:=(h.below hb).more hb.size
set_option maxHeartbeats 2000000 in
theorem rready_any (S:Sh) (D:Sx) (w:World) (hs:SR w w.heap.size S D) :
  Calls Tryz.prog 68 #[sv S D] w (LsR (lsF S.cs S.hd S.sz) w):=by
 have H0:=Lh (SAt.start 33 hs)
 have HG:=Lh (fun p W (k:SAt w p S D W)=>rlist_any D.A S.cs.length D.c S.cs S.hd S.sz W k.sr.ls)
 clear hs
 generalize lsF S.cs S.hd S.sz=L at*
 go_enter Tryz.func68,Tryz.ntmps68
 obtain ⟨t0,t1,t2,t3,t4,t5,t6,t7,tl⟩:=H0.out.s8.facts
 go_wp2_with fail
 clear t0 t1 t2 t3 t4 t5 t6 t7 tl
 refine (HG.out _ _ H0.out).mono ?_
 rintro e w2 ⟨v,rfl,hn,hl,hb⟩
 obtain ⟨A,c,rfl,_,_⟩:=hl.form
 have HL:=Lh hl
 have HB:=Lh (H0.out.below hb).bel
 clear hn hl hb
 go_wp2
 go_ret
 exact ⟨A,c,rfl,HL.out,HB.out⟩
theorem map_m_succ {l:List Le} {k:Nat} (h:k<l.length):(l.take (k+1)).map Le.m=(l.take k).map Le.m++[l[k].m]:=by
 rw [←List.take_append_getElem h,List.map_append]
 rfl
set_option maxHeartbeats 4000000 in
set_option maxRecDepth 20000 in
theorem rleased_any (S:Sh) (D:Sx) (w:World) (hs:SR w w.heap.size S D) (h12:S.l.length≤1000) :
  Calls Tryz.prog 69 #[sv S D] w (LsR (S.l.map Le.m) w):=by
 obtain ⟨i0,hi0,hz0⟩:=Option.map_eq_some_iff.1 info_msg
 simp only [Prod.mk.injEq] at hz0
 have HI:=Lh hi0
 have HZ:=Lh hz0
 have H0:=Lh (SAt.start 33 hs)
 have HE:=Lh (show S.l.map Le.m=(S.l.take S.l.length).map Le.m by rw [List.take_length])
 have hL:S.l.length≤9223372036854775807:=by omega
 have HLN:=Lh h12
 have HRS:=Lh hs
 clear hs hi0 hz0 h12
 go_enter Tryz.func69,Tryz.ntmps69
 go_wp2
 obtain ⟨p,hp⟩:∃ p,p=w.heap.size:=⟨_,rfl⟩
 rw [←hp] at H0
 rw [←hp]
 clear hp
 generalize w.alloc (.cells #[.bool S.lv,.int .i64 S.lo,.int .i64 S.hi,.slice D.A S.cs.length D.c,.int .i64 S.hd,.int .i64 S.sz,.slice D.A2 S.l.length D.c2,.slice D.A3 S.h.length D.c3] 33)=w1 at*
 go_loopw [3,4] (fun lv i wr=>∃ k:Nat,k≤S.l.length∧i=.int .i64 k∧SAt w p S D wr∧w1.heap.size≤wr.heap.size∧wr.ownsRow w1.heap.size 56 7 lv ((S.l.take k).map Le.m).length (lcs ((S.l.take k).map Le.m))) (fun _ i _=>S.l.length - (intOf i).toNat)
 case atStart=>exact ⟨0,Nat.zero_le _,rfl,H0.out,Nat.le_refl _,World.ownsRow_nil _ _ _ _⟩
 case round=>
  obtain ⟨k,hk,rfl,hsa,hsz,how⟩:=hrel
  have HS:=Lh hsa
  have HZZ:=Lh hsz
  have HO:=Lh how
  clear hsa hsz how
  obtain ⟨A5,c5,rfl⟩:=own_form HO.out
  by_cases hlt:k<S.l.length
  ·have HMS:=Lh (map_m_succ hlt)
   have HKL:=Lh (show ((S.l.take k).map Le.m).length≤1000 by rw [List.length_map,List.length_take];have:=HLN.out;omega)
   obtain ⟨b,o,hA2,hbl,hc⟩:=HS.out.sr.el.at_ hlt
   obtain ⟨x0,x1,x2,x3,x4,x5,x6,x7⟩:=hc
   generalize ((S.l.take k).map Le.m)=T at*
   generalize S.l[k]=X at*
   have HOA:=Lh (HO.out.alloc (.cells #[.int .i64 X.m.id,.int .i64 X.m.rt,.int .i64 X.m.ep,.int .i64 X.m.ct,.int .i64 X.m.gn,.int .i64 X.m.st,.string X.m.bd] 56))
   have HSA:=Lh (HS.out.alloc (.cells #[.int .i64 X.m.id,.int .i64 X.m.rt,.int .i64 X.m.ep,.int .i64 X.m.ct,.int .i64 X.m.gn,.int .i64 X.m.st,.string X.m.bd] 56))
   have HCX:=Lh (msg_row wr X.m 56)
   have HPW:=Lh (show p<w1.heap.size from H0.out.lt)
   obtain ⟨t0,t1,t2,t3,t4,t5,t6,t7,tl⟩:=HS.out.s8.facts
   rw [hA2] at t6
   go_wp2_with (at_builtin;refine wpList_append_lies _ rfl (.tmp 13) (.tmp 21) 25 rfl w1.heap.size 56 i0 _ 7 64 Tryz.underlying25 HI.out HZ.out.1 HZ.out.2.1 HZ.out.2.2 rfl (by omega) (.slice A5 T.length c5) T.length (lcs T) rfl HOA.out ⟨wr.heap.size,0,none⟩ 1 1 X.m.l rfl (by simp [Msg.l_len]) (fun j u hu=>by have:=HCX.out j u hu;simpa using this) X.m.l_one (by omega) (by have:=HKL.out;unfold maxLen;omega) (by have:=HKL.out;omega) (by have:=HZZ.out;simp;omega) _ rfl ?_;intro g cp w8 hown hgrow hat hglt)
   have HO8:=Lh (own_end hown)
   have HS8:=Lh (HSA.out.grown hgrow (fun q e=>⟨HRS.out.offs (by have h1:=(HOA.out.lt q e).1;have h2:=HPW.out;have h3:=HS.out.old;omega),by have:=(HOA.out.lt q e).1;have:=HPW.out;omega⟩))
   have HZ8:=Lh (show w1.heap.size≤w8.heap.size by have:=hgrow.size;simp at this;have:=HZZ.out;omega)
   clear hown hgrow hat hglt x0 x1 x2 x3 x4 x5 x6 x7 t0 t1 t2 t3 t4 t5 t6 t7 tl
   go_wp2
   go_roundw
   case rel=>exact ⟨k+1,by omega,by go_num,HS8.out,HZ8.out,by rw [HMS.out];exact HO8.out⟩
   case measure=>simp [intOf];omega
  ·obtain rfl:k=S.l.length:=by omega
   obtain ⟨t0,t1,t2,t3,t4,t5,t6,t7,tl⟩:=HS.out.s8.facts
   go_wp2
   go_ret
   exact ⟨A5,c5,by rw [HE.out];rfl,by rw [HE.out];exact Ls.of_own HO.out,HS.out.bel⟩
/-- The work of All: the shard, what Ready has returned (r4), the list with it (r5), what Leased has returned (r7). -/
structure AlAt (w:World) (p B:Nat) (S:Sh) (D:Sx) (L T:List Msg) (r4 r5 r7:Option Value) (W:World):Prop where
 sa:SAt w p S D W
 f4:∀ v,r4=some v→Ls W W.heap.size v L
 f5:∀ v,r5=some v→W.ownsRow B 56 7 v L.length (lcs L)
 f7:∀ v,r7=some v→Ls W W.heap.size v T
 z:W.ownsRow B 56 7 (.slice none 0 0) 0 []
 pb:p<B∧B≤W.heap.size
 off:∀ q,B≤q→SOff S D q
section
variable {w W W' : World} {p B:Nat} {S:Sh} {D:Sx} {L T:List Msg} {r4 r5 r7:Option Value} {v:Value}
theorem AlAt.below (h:AlAt w p B S D L T r4 r5 r7 W) (hb:Below W.heap.size W W'):AlAt w p B S D L T r4 r5 r7 W':=
 ⟨h.sa.below hb,fun v e=>(h.f4 v e).upz hb,fun v e=>own_below (h.f5 v e) hb,fun v e=>(h.f7 v e).upz hb,World.ownsRow_nil _ _ _ _,⟨h.pb.1,Nat.le_trans h.pb.2 hb.size⟩,h.off⟩
theorem AlAt.drew (h:AlAt w p B S D L T r4 r5 r7 W):AlAt w p B S D L T r4 r5 r7 W.drew:=h.below (Below.refl _ _).drew
theorem AlAt.a4 (h:AlAt w p B S D L T r4 r5 r7 W) (hb:Below W.heap.size W W') (hl:Ls W' W'.heap.size v L):AlAt w p B S D L T (some v) r5 r7 W':=
 ⟨(h.below hb).sa,fun u e=>by injection e with e;subst e;exact hl,(h.below hb).f5,(h.below hb).f7,World.ownsRow_nil _ _ _ _,(h.below hb).pb,h.off⟩
theorem AlAt.a7 (h:AlAt w p B S D L T r4 r5 r7 W) (hb:Below W.heap.size W W') (hl:Ls W' W'.heap.size v T):AlAt w p B S D L T r4 r5 (some v) W':=
 ⟨(h.below hb).sa,(h.below hb).f4,(h.below hb).f5,fun u e=>by injection e with e;subst e;exact hl,World.ownsRow_nil _ _ _ _,(h.below hb).pb,h.off⟩
theorem AlAt.a5 (h:AlAt w p B S D L T r4 none r7 W) (ho:W'.ownsRow B 56 7 v (0+L.length) ([]++lcs L)) (hg:W.grownBy W' (Value.ownBlock (.slice none 0 0))):AlAt w p B S D L T r4 (some v) r7 W':=by
 have hb:Below W.heap.size W W':=((Below.refl _ _).grown hg (Nat.le_refl _) (fun x e=>by simp [Value.ownBlock] at e))
 have:=h.below hb
 refine ⟨this.sa,this.f4,fun u e=>by injection e with e;subst e;simpa using ho,this.f7,this.z,this.pb,h.off⟩
theorem AlAt.a8 (h:AlAt w p B S D L T r4 (some v) r7 W) {u:Value} (ho:W'.ownsRow B 56 7 u (L.length+T.length) (lcs L++lcs T)) (hg:W.grownBy W' v.ownBlock):∃ A c,u=.slice A (L++T).length c∧Ls W' W'.heap.size (.slice A (L++T).length c) (L++T)∧Below w.heap.size w W':=by
 obtain ⟨A,c,rfl⟩:=own_form ho
 have e:L.length+T.length=(L++T).length:=by simp
 rw [e,←lcs_app] at ho
 refine ⟨A,c,by rw [e],Ls.of_own ho,h.sa.bel.grown hg h.sa.bel.size (fun x e=>?_)⟩
 have h1:=((h.f5 v rfl).lt x e).1
 have h2:=h.pb.1
 have h3:=h.sa.old
 omega
end
set_option maxHeartbeats 4000000 in
set_option maxRecDepth 20000 in
theorem rall_any (S:Sh) (D:Sx) (w:World) (hs:SR w w.heap.size S D) (h11:(lsF S.cs S.hd S.sz).length≤1000) (h12:S.l.length≤1000) :
  Calls Tryz.prog 27 #[sv S D] w (LsR S.al w):=by
 obtain ⟨i0,hi0,hz0⟩:=Option.map_eq_some_iff.1 info_msg
 simp only [Prod.mk.injEq] at hz0
 have HI:=Lh hi0
 have HZ:=Lh hz0
 have HRY:=Lh (fun W (k:SR W W.heap.size S D)=>rready_any S D W k)
 have HLD:=Lh (fun W (k:SR W W.heap.size S D)=>rleased_any S D W k h12)
 have HLT:=Lh (show (S.l.map Le.m).length≤1000 by rw [List.length_map];exact h12)
 unfold Sh.al
 generalize lsF S.cs S.hd S.sz=L at*
 generalize S.l.map Le.m=T at*
 have HLL:=Lh h11
 have H0:=Lh (show AlAt w w.heap.size (w.heap.size+1) S D L T none none none _ from ⟨SAt.start 33 hs,fun v e=>(by cases e),fun v e=>(by cases e),fun v e=>(by cases e),World.ownsRow_nil _ _ _ _,⟨Nat.lt_succ_self _,by simp⟩,fun q hq=>hs.offs (by omega)⟩)
 clear hs hi0 hz0 h11 h12
 go_enter Tryz.func27,Tryz.ntmps27
 go_wp2_with fail
 obtain ⟨p,hp⟩:∃ p,p=w.heap.size:=⟨_,rfl⟩
 rw [←hp] at H0
 rw [←hp]
 obtain ⟨B,hB⟩:∃ B,B=p+1:=⟨_,rfl⟩
 rw [←hB] at H0
 clear hp hB
 have HP:=Lh H0.out.drew
 obtain ⟨t0,t1,t2,t3,t4,t5,t6,t7,tl⟩:=H0.out.sa.s8.facts
 go_region_law (first
  | (go_simp;go_at_call 68;(with_reducible refine (HRY.out _ HP.out.sa.sr).mono ?_);rintro e w4 ⟨A4,c4,rfl,hl,hb⟩;have HP:=Lh (HP.out.a4 hb hl);clear t0 t1 t2 t3 t4 t5 t6 t7 tl hl hb;obtain ⟨t0,t1,t2,t3,t4,t5,t6,t7,tl⟩:=HP.out.sa.s8.facts)
  | (go_simp;go_at_call 69;(with_reducible refine (HLD.out _ HP.out.sa.sr).mono ?_);rintro e w7 ⟨A7,c7,rfl,hl,hb⟩;have HP:=Lh (HP.out.a7 hb hl);clear t0 t1 t2 t3 t4 t5 t6 t7 tl hl hb;obtain ⟨t0,t1,t2,t3,t4,t5,t6,t7,tl⟩:=HP.out.sa.s8.facts)
  | (refine step_append_rd _ (by rfl) _ _ _ (by rfl) B 56 i0 _ 7 64 Tryz.underlying25 HI.out HZ.out.1 HZ.out.2.1 HZ.out.2.2 rfl (by omega) (.slice none 0 0) 0 [] (by rfl) HP.out.z _ A4 L.length c4 (lcs L) (by rfl) (HP.out.f4 _ rfl).rd (lcs_one L) (by have:=HLL.out;unfold maxLen;omega) (by have:=HLL.out;omega) HP.out.pb.2 ?_;intro v5 w5 ho hg _;have HP:=Lh (HP.out.a5 ho hg);clear t0 t1 t2 t3 t4 t5 t6 t7 tl ho hg;obtain ⟨t0,t1,t2,t3,t4,t5,t6,t7,tl⟩:=HP.out.sa.s8.facts)
  | (refine step_append_rd _ (by rfl) _ _ _ (by rfl) B 56 i0 _ 7 64 Tryz.underlying25 HI.out HZ.out.1 HZ.out.2.1 HZ.out.2.2 rfl (by omega) v5 L.length (lcs L) (by rfl) (HP.out.f5 _ rfl) _ A7 T.length c7 (lcs T) (by rfl) (HP.out.f7 _ rfl).rd (lcs_one T) (by have:=HLL.out;have:=HLT.out;unfold maxLen;omega) (by have:=HLL.out;have:=HLT.out;omega) HP.out.pb.2 ?_;intro v8 w8 ho hg _;have HQ:=Lh (HP.out.a8 ho hg);clear t0 t1 t2 t3 t4 t5 t6 t7 tl ho hg))
 all_goals
  obtain ⟨A8,c8,rfl,hl,hb⟩:=HQ.out
  have HF:=Lh (And.intro hl hb)
  clear hl hb HQ
  go_wp2
  go_ret
  exact ⟨A8,c8,rfl,HF.out.1,HF.out.2⟩
/-- A list of numbers as a new result. -/
def NrR (l:List Int) (w:World) (e:Ending) (w' : World):Prop:=∃ A c,e=.returned (.slice A l.length c)∧Nr w' w'.heap.size (.slice A l.length c) l∧Below w.heap.size w w'∧Nw w.heap.size A
/-- The work of ids: the messages, the list so far. -/
structure IdsA (w:World) (B:Nat) (v:Value) (L:List Msg) (o:Value) (O:List Int) (W:World):Prop where
 ls:Ls W B v L
 own:W.ownsRow B 3 1 o O.length (O.map i64v)
 bel:Below w.heap.size w W
 ob:w.heap.size≤B∧B≤W.heap.size
/-- The work of one round: the list up to the place (r37), with the new one (r44), the new one (r43). -/
structure IdsX (w:World) (B:Nat) (v:Value) (L:List Msg) (o:Value) (O:List Int) (a:Nat) (x:Int) (r37 r44:Option Value) (r43:Option Nat) (W:World):Prop where
 at_:IdsA w B v L o O W
 z:W.ownsRow B 3 1 (.slice none 0 0) 0 []
 f37:∀ u,r37=some u→W.ownsRow B 3 1 u a ((O.take a).map i64v)∧∀ q,u.ownBlock=some q→o.ownBlock≠some q
 f44:∀ u,r44=some u→W.ownsRow B 3 1 u (a+1) ((O.take a++[x]).map i64v)∧∀ q,u.ownBlock=some q→o.ownBlock≠some q
 f43:∀ b,r43=some b→W.cell? ⟨b,0,none⟩=some (.int .i64 x)∧b<W.heap.size
theorem belN (w:World) (n:Nat):Below w.heap.size w (w.drewN n):=⟨rfl,rfl,rfl,Nat.le_refl _,fun _ _=>rfl⟩
section
variable {w W W' : World} {B:Nat} {v o u:Value} {L:List Msg} {O:List Int} {a:Nat} {x:Int} {r37 r44:Option Value} {r43:Option Nat}
theorem IdsA.below (h:IdsA w B v L o O W) (hb:Below W.heap.size W W'):IdsA w B v L o O W':=
 ⟨h.ls.below (hb.mono h.ob.2),own_below h.own hb,h.bel.trans (hb.mono h.bel.size),h.ob.1,Nat.le_trans h.ob.2 hb.size⟩
theorem IdsX.below (h:IdsX w B v L o O a x r37 r44 r43 W) (hb:Below W.heap.size W W'):IdsX w B v L o O a x r37 r44 r43 W':=
 ⟨h.at_.below hb,World.ownsRow_nil _ _ _ _,fun u e=>⟨own_below (h.f37 u e).1 hb,(h.f37 u e).2⟩,fun u e=>⟨own_below (h.f44 u e).1 hb,(h.f44 u e).2⟩,fun b e=>⟨(hb.cell (p:=⟨b,0,none⟩) (h.f43 b e).2).trans (h.f43 b e).1,Nat.lt_of_lt_of_le (h.f43 b e).2 hb.size⟩⟩
theorem IdsX.start (h:IdsA w B v L o O W):IdsX w B v L o O a x none none none W:=⟨h,World.ownsRow_nil _ _ _ _,fun u e=>(by cases e),fun u e=>(by cases e),fun u e=>(by cases e)⟩
theorem IdsX.drew (h:IdsX w B v L o O a x r37 r44 r43 W):IdsX w B v L o O a x r37 r44 r43 W.drew:=h.below (Below.refl _ _).drew
theorem IdsX.a43 (h:IdsX w B v L o O a x r37 r44 none W) (t:TypeId):IdsX w B v L o O a x r37 r44 (some W.heap.size) (W.alloc (.cells #[.int .i64 x] t)):=by
 have:=h.below ((Below.refl _ _).alloc (Nat.le_refl _) (.cells #[.int .i64 x] t))
 exact ⟨this.at_,this.z,this.f37,this.f44,fun b e=>by injection e with e;subst e;exact ⟨by simp [go_sem],by simp⟩⟩
theorem IdsX.a37 (h:IdsX w B v L o O a x none r44 r43 W) (ho:W'.ownsRow B 3 1 u (0+a) ([]++(O.take a).map i64v)) (hg:W.grownBy W' (Value.ownBlock (.slice none 0 0))) (hat:u.ownBlock=Value.ownBlock (.slice none 0 0)∨u.ownBlock=some W.heap.size):IdsX w B v L o O a x (some u) r44 r43 W':=by
 have hb:Below W.heap.size W W':=((Below.refl _ _).grown hg (Nat.le_refl _) (fun x e=>by simp [Value.ownBlock] at e))
 have:=h.below hb
 refine ⟨this.at_,this.z,fun u' e=>?_,this.f44,this.f43⟩
 injection e with e;subst e
 refine ⟨by simpa using ho,fun q hq e=>?_⟩
 rcases hat with h' | h'
 ·rw [h'] at hq;simp [Value.ownBlock] at hq
 ·rw [h'] at hq;injection hq with hq;have:=(h.at_.own.lt q e).2;omega
theorem IdsX.a44 {b:Nat} (h:IdsX w B v L o O a x (some u) none (some b) W) {y:Value} (ho:W'.ownsRow B 3 1 y (a+1) ((O.take a).map i64v++[i64v x])) (hg:W.grownBy W' u.ownBlock) (hat:y.ownBlock=u.ownBlock∨y.ownBlock=some W.heap.size):IdsX w B v L o O a x none (some y) none W':=by
 obtain ⟨h1,h2⟩:=h.f37 u rfl
 have hk:=h.at_
 refine ⟨⟨hk.ls.keep fun p hp=>hg.cell_far p (by have:=hk.ob.2;omega) (fun e=>by have:=(h1.lt _ e.symm).1;omega),hk.own.kept hg ?_,hk.bel.grown hg hk.bel.size (fun q e=>Nat.le_trans hk.ob.1 (h1.lt q e).1),hk.ob.1,Nat.le_trans hk.ob.2 hg.size⟩,World.ownsRow_nil _ _ _ _,fun u e=>(by cases e),fun u' e=>?_,fun u e=>(by cases e)⟩
 ·cases e:o.ownBlock with
  | none=>exact .inl rfl
  | some q=>right;intro e';exact h2 q e'.symm e
 ·injection e with e;subst e
  refine ⟨by rw [List.map_append];exact ho,fun q hq e=>?_⟩
  rcases hat with h' | h'
  ·exact h2 q (h'.symm.trans hq) e
  ·rw [h'] at hq;injection hq with hq;have:=(hk.own.lt q e).2;omega
theorem IdsX.a48 (h:IdsX w B v L o O a x r37 (some u) r43 W) {y:Value} (ha:a≤O.length) (ho:W'.ownsRow B 3 1 y (a+1+(O.length - a)) ((O.take a++[x]).map i64v++(O.drop a).map i64v)) (hg:W.grownBy W' u.ownBlock):IdsA w B v L y (O.take a++[x]++O.drop a) W':=by
 obtain ⟨h1,h2⟩:=h.f44 u rfl
 have hk:=h.at_
 refine ⟨hk.ls.keep fun p hp=>hg.cell_far p (by have:=hk.ob.2;omega) (fun e=>by have:=(h1.lt _ e.symm).1;omega),?_,hk.bel.grown hg hk.bel.size (fun q e=>Nat.le_trans hk.ob.1 (h1.lt q e).1),hk.ob.1,Nat.le_trans hk.ob.2 hg.size⟩
 rw [List.map_append]
 have e:(O.take a++[x]++O.drop a).length=a+1+(O.length - a):=by simp;omega
 rw [e]
 exact ho
/-- The list up to a place. -/
theorem own_take {A:Option Addr} {c:Nat} (h:W.ownsRow B 3 1 (.slice A O.length c) O.length (O.map i64v)) (ha:a≤O.length):Rd W W.heap.size 1 A a ((O.take a).map i64v):=by
 have hr:=(Nr.of_own h)
 obtain ⟨_,_,e,_,_,hr⟩:=hr
 injection e with e1 e2 e3
 subst e1;subst e3
 refine ⟨by simp;omega,fun h0=>?_⟩
 obtain ⟨b,o,rfl,hb,hc⟩:=hr.2 (by omega)
 refine ⟨b,o,rfl,hb,fun j u hu=>hc j u ?_⟩
 rw [List.map_take,List.getElem?_take] at hu
 split at hu
 ·exact hu
 ·cases hu
/-- The list from a place on. -/
theorem own_drop {A:Option Addr} {c:Nat} (h:W.ownsRow B 3 1 (.slice A O.length c) O.length (O.map i64v)) (ha:a≤O.length):Rd W W.heap.size 1 (if c=a then A else A.map (·.add a)) (O.length - a) ((O.drop a).map i64v):=by
 have hr:=(Nr.of_own h)
 obtain ⟨_,_,e,hl,_,hr⟩:=hr
 injection e with e1 e2 e3
 subst e1;subst e3
 refine ⟨by simp,fun h0=>?_⟩
 obtain ⟨b,o,rfl,hb,hc⟩:=hr.2 (by omega)
 rw [if_neg (by omega)]
 refine ⟨b,o+a,by rw [Option.map_some,add_mk],hb,fun j u hu=>?_⟩
 rw [Nat.add_assoc]
 refine hc _ u ?_
 rw [List.map_drop,List.getElem?_drop] at hu
 exact hu
theorem IdsX.cell {b o c k:Nat} (h:IdsX w B (.slice (some ⟨b,o,none⟩) L.length c) L v O a x r37 r44 r43 W) (hk:k<L.length) (hX:L[k].id=x):W.cell? ⟨b,o+k*7,none⟩=some (.int .i64 x):=by
 obtain ⟨b',o',hbo,_,x0,_⟩:=h.at_.ls.at_ hk
 injection hbo with hbo
 injection hbo with h1 h2
 subst h1;subst h2
 rw [←hX];exact x0
theorem IdsA.cell {b o c k:Nat} (h:IdsA w B (.slice (some ⟨b,o,none⟩) L.length c) L v O W) (hk:k<L.length) (hX:L[k].id=x):W.cell? ⟨b,o+k*7,none⟩=some (.int .i64 x):=by
 obtain ⟨b',o',hbo,_,x0,_⟩:=h.ls.at_ hk
 injection hbo with hbo
 injection hbo with h1 h2
 subst h1;subst h2
 rw [←hX];exact x0
theorem i64v_one (l:List Int):∀ u∈l.map i64v,u.oneCell' = true:=by
 intro u hu
 obtain ⟨z,_,rfl⟩:=List.mem_map.1 hu
 rfl
theorem one_rd {b:Nat} (h:W.cell? ⟨b,0,none⟩=some (.int .i64 x)∧b<W.heap.size):Rd W W.heap.size 1 (some ⟨b,0,none⟩) 1 [i64v x]:=
 ⟨rfl,fun _=>⟨b,0,rfl,h.2,fun j u hu=>by
  match j,hu with
  | 0,hu=>simp at hu;subst hu;exact h.1
  | j+1,hu=>simp at hu⟩⟩
end
set_option maxHeartbeats 800000 in
set_option maxRecDepth 20000 in
theorem ids_any (S:Sh) (D:Sx) (w:World) (hs:SR w w.heap.size S D) (h11:(lsF S.cs S.hd S.sz).length≤1000) (h12:S.l.length≤1000) :
  Calls Tryz.prog 13 #[sv S D] w (NrR (idsF S.al) w):=by
 obtain ⟨i0,hi0,hz0⟩:=Option.map_eq_some_iff.1 info_int5
 simp only [Prod.mk.injEq] at hz0
 have HI:=Lh hi0
 have HZ:=Lh hz0
 have HAL:=Lh (fun p W (k:SAt w p S D W)=>rall_any S D W k.sr h11 h12)
 have HLN:=Lh (show S.al.length≤2000 by unfold Sh.al;rw [List.length_append,List.length_map];omega)
 generalize S.al=L at*
 have H0:=Lh (SAt.start 33 hs)
 clear hs hi0 hz0 h11 h12
 go_enter Tryz.func13,Tryz.ntmps13
 obtain ⟨t0,t1,t2,t3,t4,t5,t6,t7,tl⟩:=H0.out.s8.facts
 go_wp2_with fail
 clear t0 t1 t2 t3 t4 t5 t6 t7 tl
 refine (HAL.out _ _ H0.out).mono ?_
 rintro e w2 ⟨A,c,rfl,hl,hb⟩
 have HA:=Lh (show IdsA w w2.heap.size (.slice A L.length c) L (.slice none 0 0) (idsF (L.take 0)) w2 from ⟨hl,World.ownsRow_nil _ _ _ _,(H0.out.below hb).bel,(H0.out.below hb).bel.size,Nat.le_refl _⟩)
 clear hl hb H0
 obtain ⟨B,hB⟩:∃ B,B=w2.heap.size:=⟨_,rfl⟩
 rw [←hB] at HA
 clear hB
 have hL:L.length≤9223372036854775807:=by have:=HLN.out;omega
 go_wp2
 go_loopw [3,5] (fun o i wr=>∃ k:Nat,k≤L.length∧i=.int .i64 k∧IdsA w B (.slice A L.length c) L o (idsF (L.take k)) wr) (fun _ i _=>L.length - (intOf i).toNat)
 case atStart=>exact ⟨0,Nat.zero_le _,rfl,HA.out⟩
 case round=>
  clear HA
  obtain ⟨k,hk,rfl,hh⟩:=hrel
  have HH:=Lh hh
  clear hh
  obtain ⟨A5,c5,rfl⟩:=own_form HH.out.own
  by_cases hlt:k<L.length
  ·have HSN:=Lh (idsF_snoc hlt)
   have HOL:=Lh (show (idsF (L.take k)).length≤2000 by rw [idsF_len,List.length_take];have:=HLN.out;omega)
   obtain ⟨b,o,rfl,hbl,x0,x1,x2,x3,x4,x5,x6⟩:=HH.out.ls.at_ hlt
   clear x1 x2 x3 x4 x5 x6
   generalize idsF (L.take k)=O at*
   obtain ⟨X,hX⟩:∃ X,X=L[k].id:=⟨_,rfl⟩
   have hX':=hX.symm
   rw [hX'] at HSN x0
   have HBL:=Lh hbl
   clear hbl hX
   have hol:O.length≤9223372036854775807:=by have:=HOL.out;omega
   go_wp2
   go_loopw [6] (fun at_ ws=>∃ a:Nat,a≤O.length∧at_=.int .i64 a∧Hid (insP X O a=insA X O)∧Hid (IdsA w B (.slice (some ⟨b,o,none⟩) L.length c) L (.slice A5 O.length c5) O ws)) (fun at_ _=>(intOf at_).toNat)
   case atStart=>exact ⟨O.length,Nat.le_refl _,rfl,Lh rfl,HH⟩
   case round=>
    obtain ⟨a,ha,rfl,HPP,HW⟩:=hrel
    obtain ⟨b',o',hbo,hbl,x0,x1,x2,x3,x4,x5,x6⟩:=HW.out.ls.at_ hlt
    injection hbo with hbo
    injection hbo with hb1 ho1
    subst hb1;subst ho1
    clear x1 x2 x3 x4 x5 x6
    rw [hX'] at x0
    rcases Nat.eq_zero_or_pos a with ha0 | ha0
    ·have hd:decide (0<a)=false:=by simp [ha0]
     have HPA:=Lh (show insA X O=a by rw [←HPP.out,ha0];rfl)
     clear HPP ha0
     go_wp2
     go_quiet (fail)
     go_wp2
     have HAX:=Lh (show a≤O.length from ha)
     have HW0:=Lh (HW.out.below (belN _ nq))
     generalize wr.drewN nq=W0 at*
     have HP:=Lh (show IdsX w B (.slice (some ⟨b,o,none⟩) L.length c) L (.slice A5 O.length c5) O a X none none none W0.drew from (IdsX.start HW0.out).drew)
     have HP0:=Lh (show IdsX w B (.slice (some ⟨b,o,none⟩) L.length c) L (.slice A5 O.length c5) O a X none none none W0 from IdsX.start HW0.out)
     have hoc:=(Nr.of_own HW0.out.own).len
     have hc1:(a:Int)≤(c5:Int):=by omega
     have hc2:(a:Int)≤(O.length:Int):=by omega
     have hc3:(c5:Int)≤9223372036854775807:=by have:=hoc.2.2;unfold maxLen at this;omega
     have hc4:(O.length:Int)≤(c5:Int):=by omega
     clear hoc x0
     have HX0:=Lh (HP.out.cell hlt hX')
     go_region_held3 (fun W=>W.cell? ⟨b,o+k*7,none⟩=some (.int .i64 X))
      (first | with_reducible exact HQ.out.cell hlt hX' | with_reducible exact HP.out.cell hlt hX' | with_reducible exact (HP.out.a43 3).cell hlt hX' | with_reducible exact (HP0.out.a43 3).drew.cell hlt hX')
      (first
      | (refine step_append_rd _ (by rfl) _ _ _ (by rfl) B 3 i0 _ 1 8 Tryz.underlying22 HI.out HZ.out.1 HZ.out.2.1 HZ.out.2.2 rfl (by omega) (.slice none 0 0) 0 [] (by rfl) HP.out.z _ A5 a c5 ((O.take a).map i64v) (by rfl) (own_take HP.out.at_.own HAX.out) (i64v_one _) (by have:=HOL.out;have:=HAX.out;unfold maxLen;omega) (by have:=HOL.out;have:=HAX.out;omega) HP.out.at_.ob.2 ?_;intro v37 w37 ho hg hat;have HP:=Lh (HP.out.a37 ho hg hat);clear ho hg hat)
      | (have HP:=Lh (HP.out.a43 3);refine step_append_rd _ (by rfl) _ _ _ (by rfl) B 3 i0 _ 1 8 Tryz.underlying22 HI.out HZ.out.1 HZ.out.2.1 HZ.out.2.2 rfl (by omega) (.slice none 0 0) 0 [] (by rfl) HP.out.z _ A5 a c5 ((O.take a).map i64v) (by rfl) (own_take HP.out.at_.own HAX.out) (i64v_one _) (by have:=HOL.out;have:=HAX.out;unfold maxLen;omega) (by have:=HOL.out;have:=HAX.out;omega) HP.out.at_.ob.2 ?_;intro v37 w37 ho hg hat;have HP:=Lh (HP.out.a37 ho hg hat);clear ho hg hat)
      | (have HP:=Lh (HP0.out.a43 3).drew;refine step_append_rd _ (by rfl) _ _ _ (by rfl) B 3 i0 _ 1 8 Tryz.underlying22 HI.out HZ.out.1 HZ.out.2.1 HZ.out.2.2 rfl (by omega) (.slice none 0 0) 0 [] (by rfl) HP.out.z _ A5 a c5 ((O.take a).map i64v) (by rfl) (own_take HP.out.at_.own HAX.out) (i64v_one _) (by have:=HOL.out;have:=HAX.out;unfold maxLen;omega) (by have:=HOL.out;have:=HAX.out;omega) HP.out.at_.ob.2 ?_;intro v37 w37 ho hg hat;have HP:=Lh (HP.out.a37 ho hg hat);clear ho hg hat)
      | (refine step_append_rd _ (by rfl) _ _ _ (by rfl) B 3 i0 _ 1 8 Tryz.underlying22 HI.out HZ.out.1 HZ.out.2.1 HZ.out.2.2 rfl (by omega) v37 a ((O.take a).map i64v) (by rfl) (HP.out.f37 _ rfl).1 _ (some ⟨_,0,none⟩) 1 1 [i64v X] (by rfl) (one_rd (HP.out.f43 _ rfl)) (i64v_one [X]) (by have:=HOL.out;have:=HAX.out;unfold maxLen;omega) (by have:=HOL.out;have:=HAX.out;omega) HP.out.at_.ob.2 ?_;intro v44 w44 ho hg hat;have HP:=Lh (HP.out.a44 ho hg hat);clear ho hg hat)
      | (have HP:=Lh (HP.out.a43 3);refine step_append_rd _ (by rfl) _ _ _ (by rfl) B 3 i0 _ 1 8 Tryz.underlying22 HI.out HZ.out.1 HZ.out.2.1 HZ.out.2.2 rfl (by omega) v37 a ((O.take a).map i64v) (by rfl) (HP.out.f37 _ rfl).1 _ (some ⟨_,0,none⟩) 1 1 [i64v X] (by rfl) (one_rd (HP.out.f43 _ rfl)) (i64v_one [X]) (by have:=HOL.out;have:=HAX.out;unfold maxLen;omega) (by have:=HOL.out;have:=HAX.out;omega) HP.out.at_.ob.2 ?_;intro v44 w44 ho hg hat;have HP:=Lh (HP.out.a44 ho hg hat);clear ho hg hat)
      | (refine step_append_rd _ (by rfl) _ _ _ (by rfl) B 3 i0 _ 1 8 Tryz.underlying22 HI.out HZ.out.1 HZ.out.2.1 HZ.out.2.2 rfl (by omega) v44 (a+1) ((O.take a++[X]).map i64v) (by rfl) (HP.out.f44 _ rfl).1 _ (if c5=a then A5 else A5.map (·.add a)) (O.length - a) (c5 - a) ((O.drop a).map i64v) (by rfl) (own_drop HP.out.at_.own HAX.out) (i64v_one _) (by have:=HOL.out;have:=HAX.out;unfold maxLen;omega) (by have:=HOL.out;have:=HAX.out;omega) HP.out.at_.ob.2 ?_;intro v48 w48 ho hg hat;have HQ:=Lh (HP.out.a48 HAX.out ho hg);clear ho hg hat))
     all_goals
      obtain ⟨A8,c8,rfl⟩:=own_form HQ.out.own
      have HR:=Lh (show IdsA w B (.slice (some ⟨b,o,none⟩) L.length c) L (.slice A8 (O.take a++[X]++O.drop a).length c8) (idsF (L.take (k+1))) w48 from by
       have e:insI X O=O.take a++[X]++O.drop a:=by unfold insI;rw [HPA.out]
       rw [HSN.out,e];exact HQ.out)
      clear HQ
      go_wp2
      go_roundw
      case rel=>exact ⟨k+1,by omega,by go_num,HR.out⟩
      case measure=>simp [intOf];omega
    ·have hd:decide (0<a)=true:=by simp;omega
     obtain ⟨a1,ha1⟩:∃ a1,a=a1+1:=⟨a - 1,by omega⟩
     have hs:IntKind.i64.wrap ((a:Int) - 1)=(a1:Int):=by rw [IntWalk.i64_in _ (by omega)];omega
     have han:a1<O.length:=by omega
     obtain ⟨b5,o5,hA5,hb5,y0⟩:=(Nr.of_own HW.out.own).at_ han
     subst hA5
     by_cases hx:O[a1] > X
     ·have HPY:=Lh (show insP X O a1=insA X O by have:=insP_yes han hx;rw [←ha1] at this;rw [←this];exact HPP.out)
      generalize O[a1]=Y at*
      have hx' : X<Y:=hx
      have HA1:=Lh (show a1≤O.length∧a1<a by omega)
      clear HPP hx ha ha0 ha1
      go_wp2
      go_quiet (fail)
      go_wp2
      go_roundw
      case rel=>exact ⟨a1,HA1.out.1,by go_num,HPY,Lh (HW.out.below (belN _ _))⟩
      case measure=>have:=HA1.out.2;simp [intOf];omega
     ·have HPA:=Lh (show insA X O=a by have:=insP_no han hx;rw [←ha1] at this;rw [←HPP.out];exact this)
      generalize O[a1]=Y at*
      have hx' : ¬X<Y:=hx
      clear HPP hx ha0 ha1
      go_wp2
      go_quiet (fail)
      go_wp2
      generalize (some ⟨b5,o5,none⟩:Option Addr)=A5 at*
      clear y0
      have HAX:=Lh (show a≤O.length from ha)
      have HW0:=Lh (HW.out.below (belN _ nq))
      generalize wr.drewN nq=W0 at*
      have HP:=Lh (show IdsX w B (.slice (some ⟨b,o,none⟩) L.length c) L (.slice A5 O.length c5) O a X none none none W0.drew from (IdsX.start HW0.out).drew)
      have HP0:=Lh (show IdsX w B (.slice (some ⟨b,o,none⟩) L.length c) L (.slice A5 O.length c5) O a X none none none W0 from IdsX.start HW0.out)
      have hoc:=(Nr.of_own HW0.out.own).len
      have hc1:(a:Int)≤(c5:Int):=by omega
      have hc2:(a:Int)≤(O.length:Int):=by omega
      have hc3:(c5:Int)≤9223372036854775807:=by have:=hoc.2.2;unfold maxLen at this;omega
      have hc4:(O.length:Int)≤(c5:Int):=by omega
      clear hoc x0
      have HX0:=Lh (HP.out.cell hlt hX')
      go_region_held3 (fun W=>W.cell? ⟨b,o+k*7,none⟩=some (.int .i64 X))
       (first | with_reducible exact HQ.out.cell hlt hX' | with_reducible exact HP.out.cell hlt hX' | with_reducible exact (HP.out.a43 3).cell hlt hX' | with_reducible exact (HP0.out.a43 3).drew.cell hlt hX')
       (first
       | (refine step_append_rd _ (by rfl) _ _ _ (by rfl) B 3 i0 _ 1 8 Tryz.underlying22 HI.out HZ.out.1 HZ.out.2.1 HZ.out.2.2 rfl (by omega) (.slice none 0 0) 0 [] (by rfl) HP.out.z _ A5 a c5 ((O.take a).map i64v) (by rfl) (own_take HP.out.at_.own HAX.out) (i64v_one _) (by have:=HOL.out;have:=HAX.out;unfold maxLen;omega) (by have:=HOL.out;have:=HAX.out;omega) HP.out.at_.ob.2 ?_;intro v37 w37 ho hg hat;have HP:=Lh (HP.out.a37 ho hg hat);clear ho hg hat)
       | (have HP:=Lh (HP.out.a43 3);refine step_append_rd _ (by rfl) _ _ _ (by rfl) B 3 i0 _ 1 8 Tryz.underlying22 HI.out HZ.out.1 HZ.out.2.1 HZ.out.2.2 rfl (by omega) (.slice none 0 0) 0 [] (by rfl) HP.out.z _ A5 a c5 ((O.take a).map i64v) (by rfl) (own_take HP.out.at_.own HAX.out) (i64v_one _) (by have:=HOL.out;have:=HAX.out;unfold maxLen;omega) (by have:=HOL.out;have:=HAX.out;omega) HP.out.at_.ob.2 ?_;intro v37 w37 ho hg hat;have HP:=Lh (HP.out.a37 ho hg hat);clear ho hg hat)
       | (have HP:=Lh (HP0.out.a43 3).drew;refine step_append_rd _ (by rfl) _ _ _ (by rfl) B 3 i0 _ 1 8 Tryz.underlying22 HI.out HZ.out.1 HZ.out.2.1 HZ.out.2.2 rfl (by omega) (.slice none 0 0) 0 [] (by rfl) HP.out.z _ A5 a c5 ((O.take a).map i64v) (by rfl) (own_take HP.out.at_.own HAX.out) (i64v_one _) (by have:=HOL.out;have:=HAX.out;unfold maxLen;omega) (by have:=HOL.out;have:=HAX.out;omega) HP.out.at_.ob.2 ?_;intro v37 w37 ho hg hat;have HP:=Lh (HP.out.a37 ho hg hat);clear ho hg hat)
       | (refine step_append_rd _ (by rfl) _ _ _ (by rfl) B 3 i0 _ 1 8 Tryz.underlying22 HI.out HZ.out.1 HZ.out.2.1 HZ.out.2.2 rfl (by omega) v37 a ((O.take a).map i64v) (by rfl) (HP.out.f37 _ rfl).1 _ (some ⟨_,0,none⟩) 1 1 [i64v X] (by rfl) (one_rd (HP.out.f43 _ rfl)) (i64v_one [X]) (by have:=HOL.out;have:=HAX.out;unfold maxLen;omega) (by have:=HOL.out;have:=HAX.out;omega) HP.out.at_.ob.2 ?_;intro v44 w44 ho hg hat;have HP:=Lh (HP.out.a44 ho hg hat);clear ho hg hat)
       | (have HP:=Lh (HP.out.a43 3);refine step_append_rd _ (by rfl) _ _ _ (by rfl) B 3 i0 _ 1 8 Tryz.underlying22 HI.out HZ.out.1 HZ.out.2.1 HZ.out.2.2 rfl (by omega) v37 a ((O.take a).map i64v) (by rfl) (HP.out.f37 _ rfl).1 _ (some ⟨_,0,none⟩) 1 1 [i64v X] (by rfl) (one_rd (HP.out.f43 _ rfl)) (i64v_one [X]) (by have:=HOL.out;have:=HAX.out;unfold maxLen;omega) (by have:=HOL.out;have:=HAX.out;omega) HP.out.at_.ob.2 ?_;intro v44 w44 ho hg hat;have HP:=Lh (HP.out.a44 ho hg hat);clear ho hg hat)
       | (refine step_append_rd _ (by rfl) _ _ _ (by rfl) B 3 i0 _ 1 8 Tryz.underlying22 HI.out HZ.out.1 HZ.out.2.1 HZ.out.2.2 rfl (by omega) v44 (a+1) ((O.take a++[X]).map i64v) (by rfl) (HP.out.f44 _ rfl).1 _ (if c5=a then A5 else A5.map (·.add a)) (O.length - a) (c5 - a) ((O.drop a).map i64v) (by rfl) (own_drop HP.out.at_.own HAX.out) (i64v_one _) (by have:=HOL.out;have:=HAX.out;unfold maxLen;omega) (by have:=HOL.out;have:=HAX.out;omega) HP.out.at_.ob.2 ?_;intro v48 w48 ho hg hat;have HQ:=Lh (HP.out.a48 HAX.out ho hg);clear ho hg hat))
      all_goals
       obtain ⟨A8,c8,rfl⟩:=own_form HQ.out.own
       have HR:=Lh (show IdsA w B (.slice (some ⟨b,o,none⟩) L.length c) L (.slice A8 (O.take a++[X]++O.drop a).length c8) (idsF (L.take (k+1))) w48 from by
        have e:insI X O=O.take a++[X]++O.drop a:=by unfold insI;rw [HPA.out]
        rw [HSN.out,e];exact HQ.out)
       clear HQ
       go_wp2
       go_roundw
       case rel=>exact ⟨k+1,by omega,by go_num,HR.out⟩
       case measure=>simp [intOf];omega
  ·obtain rfl:k=L.length:=by omega
   have HE:=Lh (show idsF (L.take L.length)=idsF L by rw [List.take_length])
   have HF:=Lh (show NrR (idsF L) w (.returned (.slice A5 (idsF (L.take L.length)).length c5)) wr from by rw [HE.out];have:=HH.out;rw [HE.out] at this;exact ⟨_,_,rfl,Nr.of_own this.own,this.bel,nwv_of (nwv_own this.own this.ob.1)⟩)
   go_wp2
   go_ret
   exact HF.out
theorem row_cells (w:World) (zs:List Int) (t:TypeId):∀ j (hj:j<zs.length),(w.alloc (.cells (zs.map i64v).toArray t)).cell? ⟨w.heap.size,j,none⟩=some (.int .i64 zs[j]):=by
 intro j hj
 rw [World.cell?_alloc_new]
 simp [hj,i64v]
/-- The numbers that the functions get. -/
structure Nm where
 mx:Int
 now:Int
 vis:Int
 ep:Int
 lim:Int
 k:Int
 mid:Int
 rt:Int
abbrev Nm.v (N:Nm):Value:=.agg #[.int .i64 N.mx,.int .i64 N.now,.int .i64 N.vis,.int .i64 N.ep,.int .i64 N.lim,.int .i64 N.k,.int .i64 N.mid,.int .i64 N.rt]
/-- Block p holds numbers. -/
structure Nb (W:World) (p:Nat) (N:Nm):Prop where
 c0:W.cell? ⟨p,0,none⟩=some (.int .i64 N.mx)
 c1:W.cell? ⟨p,1,none⟩=some (.int .i64 N.now)
 c2:W.cell? ⟨p,2,none⟩=some (.int .i64 N.vis)
 c3:W.cell? ⟨p,3,none⟩=some (.int .i64 N.ep)
 c4:W.cell? ⟨p,4,none⟩=some (.int .i64 N.lim)
 c5:W.cell? ⟨p,5,none⟩=some (.int .i64 N.k)
 c6:W.cell? ⟨p,6,none⟩=some (.int .i64 N.mid)
 c7:W.cell? ⟨p,7,none⟩=some (.int .i64 N.rt)
 fr:∀ o,W.frozen? ⟨p,o,none⟩=false
 lt:p<W.heap.size
section
variable {w W W' : World} {p g:Nat} {N:Nm}
theorem Nb.start (w:World) (N:Nm) (t:TypeId):Nb (w.alloc (.cells #[.int .i64 N.mx,.int .i64 N.now,.int .i64 N.vis,.int .i64 N.ep,.int .i64 N.lim,.int .i64 N.k,.int .i64 N.mid,.int .i64 N.rt] t)) w.heap.size N:=
 ⟨by simp [go_sem],by simp [go_sem],by simp [go_sem],by simp [go_sem],by simp [go_sem],by simp [go_sem],by simp [go_sem],by simp [go_sem],fun o=>by simp [go_sem],by simp⟩
theorem Nb.keep (h:Nb W p N) (hs:W.heap.size≤W'.heap.size) (hc:∀ o,W'.cell? ⟨p,o,none⟩=W.cell? ⟨p,o,none⟩) (hf:∀ o,W'.frozen? ⟨p,o,none⟩=W.frozen? ⟨p,o,none⟩):Nb W' p N:=
 ⟨(hc 0).trans h.c0,(hc 1).trans h.c1,(hc 2).trans h.c2,(hc 3).trans h.c3,(hc 4).trans h.c4,(hc 5).trans h.c5,(hc 6).trans h.c6,(hc 7).trans h.c7,fun o=>(hf o).trans (h.fr o),Nat.lt_of_lt_of_le h.lt hs⟩
theorem Nb.up (h:Nb W p N) (hb:Below W.heap.size W W'):Nb W' p N:=h.keep hb.size (fun o=>hb.cell (p:=⟨p,o,none⟩) h.lt) (fun o=>hb.frozen (p:=⟨p,o,none⟩) h.lt)
theorem Nb.alloc (h:Nb W p N) (o:Obj):Nb (W.alloc o) p N:=h.up ((Below.refl _ _).alloc (Nat.le_refl _) o)
theorem Nb.grown (h:Nb W p N) {row:Option Nat} (hg:W.grownBy W' row) (hne:some p≠row):Nb W' p N:=h.keep hg.size (fun o=>hg.cell_far ⟨p,o,none⟩ h.lt hne) (fun o=>hg.frozen_far ⟨p,o,none⟩ h.lt hne)
theorem Nb.other (h:Nb W p N) {a:Addr} (hne:a.block≠p) (v:Value):Nb (W.setCell a v) p N:=
 h.keep (by simp) (fun o=>World.cell?_setCell_other W a ⟨p,o,none⟩ v (fun e=>hne (by rw [e]))) (fun o=>by simp [go_sem])
theorem Nb.all (h:Nb W p N):(W.cell? ⟨p,0,none⟩=some (.int .i64 N.mx)∧W.cell? ⟨p,1,none⟩=some (.int .i64 N.now)∧W.cell? ⟨p,2,none⟩=some (.int .i64 N.vis)∧W.cell? ⟨p,3,none⟩=some (.int .i64 N.ep)∧W.cell? ⟨p,4,none⟩=some (.int .i64 N.lim)∧W.cell? ⟨p,5,none⟩=some (.int .i64 N.k)∧W.cell? ⟨p,6,none⟩=some (.int .i64 N.mid)∧W.cell? ⟨p,7,none⟩=some (.int .i64 N.rt)∧p<W.heap.size)∧
  (W.frozen? ⟨p,0,none⟩=false∧W.frozen? ⟨p,1,none⟩=false∧W.frozen? ⟨p,2,none⟩=false∧W.frozen? ⟨p,3,none⟩=false∧W.frozen? ⟨p,4,none⟩=false∧W.frozen? ⟨p,5,none⟩=false∧W.frozen? ⟨p,6,none⟩=false∧W.frozen? ⟨p,7,none⟩=false):=
 ⟨⟨h.c0,h.c1,h.c2,h.c3,h.c4,h.c5,h.c6,h.c7,h.lt⟩,h.fr 0,h.fr 1,h.fr 2,h.fr 3,h.fr 4,h.fr 5,h.fr 6,h.fr 7⟩
theorem Nb.set0 (h:Nb W p N) (x:Int):Nb (W.setCell ⟨p,0,none⟩ (.int .i64 x)) p { N with mx:=x }:=by
 obtain ⟨⟨c0,c1,c2,c3,c4,c5,c6,c7,l⟩,_⟩:=h.all
 exact ⟨by simp [go_sem,c0],by simp [go_sem,c1],by simp [go_sem,c2],by simp [go_sem,c3],by simp [go_sem,c4],by simp [go_sem,c5],by simp [go_sem,c6],by simp [go_sem,c7],fun o=>by simp [go_sem,h.fr o],by simp [l]⟩
theorem Nb.set1 (h:Nb W p N) (x:Int):Nb (W.setCell ⟨p,1,none⟩ (.int .i64 x)) p { N with now:=x }:=by
 obtain ⟨⟨c0,c1,c2,c3,c4,c5,c6,c7,l⟩,_⟩:=h.all
 exact ⟨by simp [go_sem,c0],by simp [go_sem,c1],by simp [go_sem,c2],by simp [go_sem,c3],by simp [go_sem,c4],by simp [go_sem,c5],by simp [go_sem,c6],by simp [go_sem,c7],fun o=>by simp [go_sem,h.fr o],by simp [l]⟩
theorem Nb.set2 (h:Nb W p N) (x:Int):Nb (W.setCell ⟨p,2,none⟩ (.int .i64 x)) p { N with vis:=x }:=by
 obtain ⟨⟨c0,c1,c2,c3,c4,c5,c6,c7,l⟩,_⟩:=h.all
 exact ⟨by simp [go_sem,c0],by simp [go_sem,c1],by simp [go_sem,c2],by simp [go_sem,c3],by simp [go_sem,c4],by simp [go_sem,c5],by simp [go_sem,c6],by simp [go_sem,c7],fun o=>by simp [go_sem,h.fr o],by simp [l]⟩
theorem Nb.set3 (h:Nb W p N) (x:Int):Nb (W.setCell ⟨p,3,none⟩ (.int .i64 x)) p { N with ep:=x }:=by
 obtain ⟨⟨c0,c1,c2,c3,c4,c5,c6,c7,l⟩,_⟩:=h.all
 exact ⟨by simp [go_sem,c0],by simp [go_sem,c1],by simp [go_sem,c2],by simp [go_sem,c3],by simp [go_sem,c4],by simp [go_sem,c5],by simp [go_sem,c6],by simp [go_sem,c7],fun o=>by simp [go_sem,h.fr o],by simp [l]⟩
theorem Nb.set4 (h:Nb W p N) (x:Int):Nb (W.setCell ⟨p,4,none⟩ (.int .i64 x)) p { N with lim:=x }:=by
 obtain ⟨⟨c0,c1,c2,c3,c4,c5,c6,c7,l⟩,_⟩:=h.all
 exact ⟨by simp [go_sem,c0],by simp [go_sem,c1],by simp [go_sem,c2],by simp [go_sem,c3],by simp [go_sem,c4],by simp [go_sem,c5],by simp [go_sem,c6],by simp [go_sem,c7],fun o=>by simp [go_sem,h.fr o],by simp [l]⟩
theorem Nb.set5 (h:Nb W p N) (x:Int):Nb (W.setCell ⟨p,5,none⟩ (.int .i64 x)) p { N with k:=x }:=by
 obtain ⟨⟨c0,c1,c2,c3,c4,c5,c6,c7,l⟩,_⟩:=h.all
 exact ⟨by simp [go_sem,c0],by simp [go_sem,c1],by simp [go_sem,c2],by simp [go_sem,c3],by simp [go_sem,c4],by simp [go_sem,c5],by simp [go_sem,c6],by simp [go_sem,c7],fun o=>by simp [go_sem,h.fr o],by simp [l]⟩
end
/-- Some numbers, made by a source. -/
def SrNum (B g:Nat) (w:World) (e:Ending) (w' : World):Prop:=∃ N:Nm,e=.returned N.v∧SrcAt w' B g∧w.grownBy w' (some g)
/-- The work of some, before the numbers are there. -/
structure So0 (w:World) (B g r:Nat) (W:World):Prop where
 src:SrcAt W B g
 rs:Nb W r ⟨0,0,0,0,0,0,0,0⟩
 grow:w.grownBy W (some g)
 old:g<w.heap.size∧w.heap.size≤r∧B≤g
/-- .. and behind. -/
structure So1 (w:World) (B g r k:Nat) (N:Nm) (W:World):Prop where
 s0:So0 w B g r W
 nb:Nb W k N
 ne:r<k
section
variable {w W W' : World} {B g r k:Nat} {N:Nm}
theorem So0.turn (h:So0 w B g r W) (hs:SrcAt W' B g) (hg:W.grownBy W' (some g)):So0 w B g r W':=⟨hs,h.rs.grown hg (fun e=>by injection e;have:=h.old;omega),h.grow.trans hg,h.old⟩
theorem So0.alloc (h:So0 w B g r W) (o:Obj):So0 w B g r (W.alloc o):=⟨h.src.alloc o,h.rs.alloc o,only_alloc h.grow o,h.old⟩
theorem So1.turn (h:So1 w B g r k N W) (hs:SrcAt W' B g) (hg:W.grownBy W' (some g)):So1 w B g r k N W':=⟨h.s0.turn hs hg,h.nb.grown hg (fun e=>by injection e;have:=h.s0.old;have:=h.ne;omega),h.ne⟩
theorem So1.alloc (h:So1 w B g r k N W) (o:Obj):So1 w B g r k N (W.alloc o):=⟨h.s0.alloc o,h.nb.alloc o,h.ne⟩
theorem So0.other (h:So0 w B g r W) {a:Addr} (h1:a.block≠r) (h2:w.heap.size≤a.block) (v:Value):So0 w B g r (W.setCell a v):=by
 have ho:=h.old
 exact ⟨h.src.other (p:=a) (by omega) (by omega) v,h.rs.other h1 v,only_set h.grow (p:=a) (.inr h2) v,h.old⟩
theorem So0.pick (h:So0 w B g r W) (zs:List Int) (h1:1≤zs.length) (h2:zs.length≤1000):Calls Tryz.prog 25 #[.pointer (some ⟨g,0,none⟩),.slice (some ⟨W.heap.size,0,none⟩) zs.length zs.length] (W.alloc (.cells (zs.map i64v).toArray 3)) (SrPick B g zs (W.alloc (.cells (zs.map i64v).toArray 3))):=
 pick_any B g _ (h.src.alloc _) W.heap.size zs.length zs rfl (by simp) (by have:=h.src.2.1;omega) h1 h2 (row_cells W zs _)
theorem So1.set0 (h:So1 w B g r k N W) (x:Int):So1 w B g r k { N with mx:=x } (W.setCell ⟨k,0,none⟩ (.int .i64 x)):=
 ⟨h.s0.other (a:=⟨k,0,none⟩) (show k≠r by have:=h.ne;omega) (show w.heap.size≤k by have:=h.ne;have:=h.s0.old;omega) _,h.nb.set0 x,h.ne⟩
theorem So1.set1 (h:So1 w B g r k N W) (x:Int):So1 w B g r k { N with now:=x } (W.setCell ⟨k,1,none⟩ (.int .i64 x)):=
 ⟨h.s0.other (a:=⟨k,1,none⟩) (show k≠r by have:=h.ne;omega) (show w.heap.size≤k by have:=h.ne;have:=h.s0.old;omega) _,h.nb.set1 x,h.ne⟩
theorem So1.set2 (h:So1 w B g r k N W) (x:Int):So1 w B g r k { N with vis:=x } (W.setCell ⟨k,2,none⟩ (.int .i64 x)):=
 ⟨h.s0.other (a:=⟨k,2,none⟩) (show k≠r by have:=h.ne;omega) (show w.heap.size≤k by have:=h.ne;have:=h.s0.old;omega) _,h.nb.set2 x,h.ne⟩
theorem So1.set3 (h:So1 w B g r k N W) (x:Int):So1 w B g r k { N with ep:=x } (W.setCell ⟨k,3,none⟩ (.int .i64 x)):=
 ⟨h.s0.other (a:=⟨k,3,none⟩) (show k≠r by have:=h.ne;omega) (show w.heap.size≤k by have:=h.ne;have:=h.s0.old;omega) _,h.nb.set3 x,h.ne⟩
theorem So1.set4 (h:So1 w B g r k N W) (x:Int):So1 w B g r k { N with lim:=x } (W.setCell ⟨k,4,none⟩ (.int .i64 x)):=
 ⟨h.s0.other (a:=⟨k,4,none⟩) (show k≠r by have:=h.ne;omega) (show w.heap.size≤k by have:=h.ne;have:=h.s0.old;omega) _,h.nb.set4 x,h.ne⟩
theorem So1.set5 (h:So1 w B g r k N W) (x:Int):So1 w B g r k { N with k:=x } (W.setCell ⟨k,5,none⟩ (.int .i64 x)):=
 ⟨h.s0.other (a:=⟨k,5,none⟩) (show k≠r by have:=h.ne;omega) (show w.heap.size≤k by have:=h.ne;have:=h.s0.old;omega) _,h.nb.set5 x,h.ne⟩
theorem So1.out (h:So1 w B g r k N W) (x0 x1 x2 x3 x4 x5 x6 x7:Value):SrcAt ((((((((W.setCell ⟨r,0,none⟩ x0).setCell ⟨r,1,none⟩ x1).setCell ⟨r,2,none⟩ x2).setCell ⟨r,3,none⟩ x3).setCell ⟨r,4,none⟩ x4).setCell ⟨r,5,none⟩ x5).setCell ⟨r,6,none⟩ x6).setCell ⟨r,7,none⟩ x7) B g∧w.grownBy ((((((((W.setCell ⟨r,0,none⟩ x0).setCell ⟨r,1,none⟩ x1).setCell ⟨r,2,none⟩ x2).setCell ⟨r,3,none⟩ x3).setCell ⟨r,4,none⟩ x4).setCell ⟨r,5,none⟩ x5).setCell ⟨r,6,none⟩ x6).setCell ⟨r,7,none⟩ x7) (some g):=by
 have ho:=h.s0.old
 have h1:∀ o,(⟨r,o,none⟩:Addr).block≠g:=fun o=>show r≠g by omega
 have h2:∀ o,B≤(⟨r,o,none⟩:Addr).block:=fun o=>show B≤r by omega
 have h3:∀ o,(⟨r,o,none⟩:Addr).block=g∨w.heap.size≤(⟨r,o,none⟩:Addr).block:=fun o=>.inr (show w.heap.size≤r by omega)
 exact ⟨((((((((h.s0.src.other (h1 _) (h2 _) _).other (h1 _) (h2 _) _).other (h1 _) (h2 _) _).other (h1 _) (h2 _) _).other (h1 _) (h2 _) _).other (h1 _) (h2 _) _).other (h1 _) (h2 _) _).other (h1 _) (h2 _) _),only_set (only_set (only_set (only_set (only_set (only_set (only_set (only_set h.s0.grow (h3 _) _) (h3 _) _) (h3 _) _) (h3 _) _) (h3 _) _) (h3 _) _) (h3 _) _) (h3 _) _⟩
end
set_option maxHeartbeats 16000000 in
set_option maxRecDepth 20000 in
theorem some_any (B g:Nat) (w:World) (h:SrcAt w B g):Calls Tryz.prog 11 #[.pointer (some ⟨g,0,none⟩)] w (SrNum B g w):=by
 have H0:=Lh (show So0 w B g w.heap.size (w.alloc (.cells #[.int .i64 0,.int .i64 0,.int .i64 0,.int .i64 0,.int .i64 0,.int .i64 0,.int .i64 0,.int .i64 0] 37)) from ⟨h.alloc _,Nb.start w ⟨0,0,0,0,0,0,0,0⟩ _,only_alloc (World.grownBy.refl w (some g)) _,h.2.1,Nat.le_refl _,h.1⟩)
 clear h
 go_enter Tryz.func11,Tryz.ntmps11
 go_wp2_with fail
 obtain ⟨r,hr⟩:∃ r,r=w.heap.size:=⟨_,rfl⟩
 rw [←hr] at H0 ⊢
 clear hr
 generalize w.alloc (.cells #[.int .i64 0,.int .i64 0,.int .i64 0,.int .i64 0,.int .i64 0,.int .i64 0,.int .i64 0,.int .i64 0] 37)=w1 at*
 refine (range_any B g _ H0.out.src 1 4 (by omega) (by omega) (by omega)).mono ?_
 rintro e w2 ⟨x0,rfl,_,_,hs,hg⟩
 have H0:=Lh (H0.out.turn hs hg)
 clear hs hg
 go_wp2_with fail
 refine (n_any B g _ H0.out.src 32 (by omega) (by omega)).mono ?_
 rintro e w2 ⟨x1,rfl,_,_,hs,hg⟩
 have H0:=Lh (H0.out.turn hs hg)
 clear hs hg
 go_wp2_with fail
 refine ((H0.out.pick [0,1,10,1000] (by decide) (by decide))).mono ?_
 rintro e w2 ⟨x2,rfl,_,hs,hg⟩
 have H0:=Lh ((H0.out.alloc _).turn hs hg)
 clear hs hg
 go_wp2_with fail
 refine (n_any B g _ H0.out.src 3 (by omega) (by omega)).mono ?_
 rintro e w2 ⟨x3,rfl,_,_,hs,hg⟩
 have H0:=Lh (H0.out.turn hs hg)
 clear hs hg
 go_wp2_with fail
 refine (range_any B g _ H0.out.src 1 4 (by omega) (by omega) (by omega)).mono ?_
 rintro e w2 ⟨x4,rfl,_,_,hs,hg⟩
 have H0:=Lh (H0.out.turn hs hg)
 clear hs hg
 go_wp2_with fail
 refine (range_any B g _ H0.out.src 0 4 (by omega) (by omega) (by omega)).mono ?_
 rintro e w2 ⟨x5,rfl,_,_,hs,hg⟩
 have H0:=Lh (H0.out.turn hs hg)
 clear hs hg
 go_wp2_with fail
 refine ((H0.out.pick [0,100,20000,32768,40000] (by decide) (by decide))).mono ?_
 rintro e w2 ⟨x6,rfl,_,hs,hg⟩
 have H0:=Lh ((H0.out.alloc _).turn hs hg)
 clear hs hg
 go_wp2_with fail
 refine (n_any B g _ H0.out.src 65536 (by omega) (by omega)).mono ?_
 rintro e w2 ⟨x7,rfl,_,_,hs,hg⟩
 have H0:=Lh (H0.out.turn hs hg)
 clear hs hg
 have H1:=Lh (show So1 w B g r w2.heap.size ⟨x0,x1,x2,x3,x4,x5,x6,x7⟩ (w2.alloc (.cells #[.int .i64 x0,.int .i64 x1,.int .i64 x2,.int .i64 x3,.int .i64 x4,.int .i64 x5,.int .i64 x6,.int .i64 x7] 37)) from ⟨H0.out.alloc _,Nb.start w2 ⟨x0,x1,x2,x3,x4,x5,x6,x7⟩ _,H0.out.rs.lt⟩)
 go_wp2_with fail
 obtain ⟨k,hk⟩:∃ k,k=w2.heap.size:=⟨_,rfl⟩
 rw [←hk] at H1 ⊢
 clear hk H0
 generalize w2.alloc (.cells #[.int .i64 x0,.int .i64 x1,.int .i64 x2,.int .i64 x3,.int .i64 x4,.int .i64 x5,.int .i64 x6,.int .i64 x7] 37)=w3 at*
 have HNE:=Lh (show ¬r=k∧¬k=r by have:=H1.out.ne;omega)
 refine (n_any B g _ H1.out.s0.src 16 (by omega) (by omega)).mono ?_
 rintro e w4 ⟨y,rfl,_,_,hs,hg⟩
 have H1:=Lh (H1.out.turn hs hg)
 clear hs hg
 by_cases hy0:y=0
 ·subst hy0
  go_wp2_with fail
  refine (H1.out.s0.pick [0,6,7] (by decide) (by decide)).mono ?_
  rintro e w5 ⟨z,rfl,_,hs,hg⟩
  have H2:=Lh ((H1.out.alloc _).turn hs hg)
  clear hs hg
  obtain ⟨⟨a0,a1,a2,a3,a4,a5,a6,a7,al⟩,b0,b1,b2,b3,b4,b5,b6,b7⟩:=H2.out.nb.all
  obtain ⟨⟨c0,c1,c2,c3,c4,c5,c6,c7,cl⟩,d0,d1,d2,d3,d4,d5,d6,d7⟩:=H2.out.s0.rs.all
  obtain ⟨hrk,hkr⟩:=HNE.out
  go_wp2
  exact bodyPost_ret (v:=Nm.v ⟨z,x1,x2,x3,x4,x5,x6,x7⟩) (by simp only [results,Tryz.results11];go_simp <;> rfl) rfl ⟨_,rfl,(H2.out.set0 z).out _ _ _ _ _ _ _ _⟩
 by_cases hy1:y=1
 ·subst hy1
  go_wp2_with fail
  refine (H1.out.s0.pick [-1,1073741824,1073741825,1073741814] (by decide) (by decide)).mono ?_
  rintro e w5 ⟨z,rfl,_,hs,hg⟩
  have H2:=Lh ((H1.out.alloc _).turn hs hg)
  clear hs hg
  obtain ⟨⟨a0,a1,a2,a3,a4,a5,a6,a7,al⟩,b0,b1,b2,b3,b4,b5,b6,b7⟩:=H2.out.nb.all
  obtain ⟨⟨c0,c1,c2,c3,c4,c5,c6,c7,cl⟩,d0,d1,d2,d3,d4,d5,d6,d7⟩:=H2.out.s0.rs.all
  obtain ⟨hrk,hkr⟩:=HNE.out
  go_wp2
  exact bodyPost_ret (v:=Nm.v ⟨x0,z,x2,x3,x4,x5,x6,x7⟩) (by simp only [results,Tryz.results11];go_simp <;> rfl) rfl ⟨_,rfl,(H2.out.set1 z).out _ _ _ _ _ _ _ _⟩
 by_cases hy2:y=2
 ·subst hy2
  go_wp2_with fail
  refine (H1.out.s0.pick [-1,1001] (by decide) (by decide)).mono ?_
  rintro e w5 ⟨z,rfl,_,hs,hg⟩
  have H2:=Lh ((H1.out.alloc _).turn hs hg)
  clear hs hg
  obtain ⟨⟨a0,a1,a2,a3,a4,a5,a6,a7,al⟩,b0,b1,b2,b3,b4,b5,b6,b7⟩:=H2.out.nb.all
  obtain ⟨⟨c0,c1,c2,c3,c4,c5,c6,c7,cl⟩,d0,d1,d2,d3,d4,d5,d6,d7⟩:=H2.out.s0.rs.all
  obtain ⟨hrk,hkr⟩:=HNE.out
  go_wp2
  exact bodyPost_ret (v:=Nm.v ⟨x0,x1,z,x3,x4,x5,x6,x7⟩) (by simp only [results,Tryz.results11];go_simp <;> rfl) rfl ⟨_,rfl,(H2.out.set2 z).out _ _ _ _ _ _ _ _⟩
 by_cases hy3:y=3
 ·subst hy3
  go_wp2_with fail
  refine (H1.out.s0.pick [-1,65536,65537] (by decide) (by decide)).mono ?_
  rintro e w5 ⟨z,rfl,_,hs,hg⟩
  have H2:=Lh ((H1.out.alloc _).turn hs hg)
  clear hs hg
  obtain ⟨⟨a0,a1,a2,a3,a4,a5,a6,a7,al⟩,b0,b1,b2,b3,b4,b5,b6,b7⟩:=H2.out.nb.all
  obtain ⟨⟨c0,c1,c2,c3,c4,c5,c6,c7,cl⟩,d0,d1,d2,d3,d4,d5,d6,d7⟩:=H2.out.s0.rs.all
  obtain ⟨hrk,hkr⟩:=HNE.out
  go_wp2
  exact bodyPost_ret (v:=Nm.v ⟨x0,x1,x2,z,x4,x5,x6,x7⟩) (by simp only [results,Tryz.results11];go_simp <;> rfl) rfl ⟨_,rfl,(H2.out.set3 z).out _ _ _ _ _ _ _ _⟩
 by_cases hy4:y=4
 ·subst hy4
  go_wp2_with fail
  refine (H1.out.s0.pick [0,8,9] (by decide) (by decide)).mono ?_
  rintro e w5 ⟨z,rfl,_,hs,hg⟩
  have H2:=Lh ((H1.out.alloc _).turn hs hg)
  clear hs hg
  obtain ⟨⟨a0,a1,a2,a3,a4,a5,a6,a7,al⟩,b0,b1,b2,b3,b4,b5,b6,b7⟩:=H2.out.nb.all
  obtain ⟨⟨c0,c1,c2,c3,c4,c5,c6,c7,cl⟩,d0,d1,d2,d3,d4,d5,d6,d7⟩:=H2.out.s0.rs.all
  obtain ⟨hrk,hkr⟩:=HNE.out
  go_wp2
  exact bodyPost_ret (v:=Nm.v ⟨x0,x1,x2,x3,z,x5,x6,x7⟩) (by simp only [results,Tryz.results11];go_simp <;> rfl) rfl ⟨_,rfl,(H2.out.set4 z).out _ _ _ _ _ _ _ _⟩
 by_cases hy5:y=5
 ·subst hy5
  go_wp2_with fail
  refine (H1.out.s0.pick [-1,12,13] (by decide) (by decide)).mono ?_
  rintro e w5 ⟨z,rfl,_,hs,hg⟩
  have H2:=Lh ((H1.out.alloc _).turn hs hg)
  clear hs hg
  obtain ⟨⟨a0,a1,a2,a3,a4,a5,a6,a7,al⟩,b0,b1,b2,b3,b4,b5,b6,b7⟩:=H2.out.nb.all
  obtain ⟨⟨c0,c1,c2,c3,c4,c5,c6,c7,cl⟩,d0,d1,d2,d3,d4,d5,d6,d7⟩:=H2.out.s0.rs.all
  obtain ⟨hrk,hkr⟩:=HNE.out
  go_wp2
  exact bodyPost_ret (v:=Nm.v ⟨x0,x1,x2,x3,x4,z,x6,x7⟩) (by simp only [results,Tryz.results11];go_simp <;> rfl) rfl ⟨_,rfl,(H2.out.set5 z).out _ _ _ _ _ _ _ _⟩
 have H2:=Lh H1.out
 have hnn:(y==0)=false∧(y==1)=false∧(y==2)=false∧(y==3)=false∧(y==4)=false∧(y==5)=false:=by simp;omega
 obtain ⟨n0,n1,n2,n3,n4,n5⟩:=hnn
 obtain ⟨⟨a0,a1,a2,a3,a4,a5,a6,a7,al⟩,b0,b1,b2,b3,b4,b5,b6,b7⟩:=H2.out.nb.all
 obtain ⟨⟨c0,c1,c2,c3,c4,c5,c6,c7,cl⟩,d0,d1,d2,d3,d4,d5,d6,d7⟩:=H2.out.s0.rs.all
 obtain ⟨hrk,hkr⟩:=HNE.out
 go_wp2
 exact bodyPost_ret (v:=Nm.v ⟨x0,x1,x2,x3,x4,x5,x6,x7⟩) (by simp only [results,Tryz.results11];go_simp <;> rfl) rfl ⟨_,rfl,H2.out.out _ _ _ _ _ _ _ _⟩
end Go.Proofs.YtncgbldcjfbknaaGreat
