/- What is proved here: Shp; Deliver of message and its reference, each by one contract for all arguments; Shq; shard.pull of what Take wants, by a contract; shard.giveBack by contracts. -/
import Derived.Test.YtncgbldcjfbknaaGreatJ21
/- Plain: what pushes, releases, grants and extensions make of a valid live shard. -/
namespace Go.Proofs.YtncgbldcjfbknaaGreat
open Go.RowKit
set_option linter.unusedVariables false
theorem gd_perm {l m:List Msg} (p:l.Perm m) (hg:Gd l):Gd m:=
 ⟨fun M hM=>hg.1 M (p.mem_iff.2 hM),(dup_pair m).2 ((p.pairwise_iff (fun h e=>h e.symm)).1 ((dup_pair l).1 hg.2))⟩
theorem gd_cons {M:Msg} {l:List Msg}:Gd (M::l)↔vf M=0∧Gd l∧∀ N∈l,N.id≠M.id:=by
 constructor
 ·intro h
  have p:=(dup_pair _).1 h.2
  rw [List.pairwise_cons] at p
  exact ⟨h.1 M (by simp),gd_sub (List.sublist_cons_self M l) h,fun N hN e=>p.1 N hN e.symm⟩
 ·rintro ⟨h1,h2,h3⟩
  exact gd_front h2 h1 h3
def Vs.push (V:Vs) (M:Msg):Vs:=⟨V.lo,V.hi,V.n,V.hd,V.L++[M],V.l,V.h⟩
def Vs.front (V:Vs) (M:Msg):Vs:=⟨V.lo,V.hi,V.n,(V.hd+(V.n - 1)) % V.n,M::V.L,V.l,V.h⟩
noncomputable def Vs.rel (V:Vs) (id:Int):Vs:=⟨V.lo,V.hi,V.n,V.hd,V.L,rlL V.l V.h id,rlH V.l V.h id⟩
noncomputable def Vs.gr (V:Vs) (x:Le):Vs:=⟨V.lo,V.hi,V.n,V.hd,V.L,grL V.l V.h x,grH V.l V.h x⟩
noncomputable def Vs.ext (V:Vs) (id dl:Int):Vs:=⟨V.lo,V.hi,V.n,V.hd,V.L,exL V.l V.h id dl,exH V.l V.h id dl⟩
/-- A message that a shard may take. -/
structure Fits (V:Vs) (M:Msg):Prop where
 vf:vf M=0
 own:V.lo≤M.rt∧M.rt≤V.hi
 room:V.L.length+V.l.length<V.n
 new:∀ N∈V.al,N.id≠M.id
section
variable {V:Vs} {M:Msg} {x:Le} {id dl:Int}
theorem push_al (V:Vs) (M:Msg):(V.push M).al.Perm (M::V.al):=by
 show ((V.L++[M])++V.l.map Le.m).Perm (M::(V.L++V.l.map Le.m))
 rw [List.append_assoc]
 exact List.perm_middle
theorem front_al (V:Vs) (M:Msg):(V.front M).al=M::V.al:=rfl
theorem Vs.Ok.push (k:V.Ok) (f:Fits V M):(V.push M).Ok:=by
 refine ⟨k.n1,k.n2,k.hh,k.tb,k.sp,?_,gd_perm (push_al V M).symm (gd_cons.2 ⟨f.vf,k.gd,f.new⟩),fun N hN=>?_⟩
 ·show (V.L++[M]).length+V.l.length≤V.n
  have:=f.room
  simp;omega
 ·rcases List.mem_cons.1 ((push_al V M).mem_iff.1 hN) with e | e
  ·rw [e];exact f.own
  ·exact k.own N e
theorem Vs.Ok.front (k:V.Ok) (f:Fits V M):(V.front M).Ok:=by
 refine ⟨k.n1,k.n2,Nat.mod_lt _ (by have:=k.n1;omega),k.tb,k.sp,?_,gd_cons.2 ⟨f.vf,k.gd,f.new⟩,fun N hN=>?_⟩
 ·show (M::V.L).length+V.l.length≤V.n
  have:=f.room
  simp;omega
 ·rcases List.mem_cons.1 hN with e | e
  ·rw [e];exact f.own
  ·exact k.own N e
/-- The push into the ring of a valid shard. -/
theorem Vs.Ok.pb (k:V.Ok) (f:Fits V M):puE (fil V.n V.hd V.L) (V.hd:Int) (V.L.length:Int) M=0∧pbC (fil V.n V.hd V.L) (V.hd:Int) (V.L.length:Int) M=fil V.n V.hd (V.L++[M]):=by
 have hl:V.L.length<V.n:=by have:=f.room;omega
 have hi:∀ N∈V.L,N.id≠M.id:=fun N hN=>f.new N (List.mem_append_left _ hN)
 exact ⟨puE_fil k.n1 k.n2 k.hh hl k.gL f.vf hi,pbC_fil k.n1 k.n2 k.hh hl k.gL f.vf hi⟩
theorem Vs.Ok.pf (k:V.Ok) (f:Fits V M):puE (fil V.n V.hd V.L) (V.hd:Int) (V.L.length:Int) M=0∧pfC (fil V.n V.hd V.L) (V.hd:Int) (V.L.length:Int) M=fil V.n ((V.hd+(V.n - 1)) % V.n) (M::V.L)∧pfH (fil V.n V.hd V.L) (V.hd:Int) (V.L.length:Int) M=((V.hd+(V.n - 1)) % V.n:Nat):=by
 have hl:V.L.length<V.n:=by have:=f.room;omega
 have hi:∀ N∈V.L,N.id≠M.id:=fun N hN=>f.new N (List.mem_append_left _ hN)
 exact ⟨puE_fil k.n1 k.n2 k.hh hl k.gL f.vf hi,pfC_fil k.n1 k.n2 k.hh hl k.gL f.vf hi⟩
theorem map_m_perm {l m:List Le} (p:l.Perm m):(l.map Le.m).Perm (m.map Le.m):=p.map _
/-- A release from a valid shard. -/
theorem Vs.Ok.rel (k:V.Ok) (e:rlE V.l V.h id=0):(V.rel id).Ok∧V.al.Perm (rlM V.l V.h id::(V.rel id).al)∧(rlM V.l V.h id).id=id∧(V.rel id).l.length+1=V.l.length∧∃ j,∃ hj:j<V.l.length,V.l[j].m=rlM V.l V.h id:=by
 obtain ⟨t,j,hj,-,e2,hH,hL,hM⟩:=rlE_at e
 have p:V.al.Perm (rlM V.l V.h id::(V.rel id).al):=by
  show (V.L++V.l.map Le.m).Perm (_::(V.L++(rlL V.l V.h id).map Le.m))
  rw [hL,hM]
  have q:V.l.Perm (V.l[j]::V.l.eraseIdx j):=by
   conv=>lhs;rw [←List.take_append_drop j V.l,List.drop_eq_getElem_cons hj]
   rw [List.eraseIdx_eq_take_drop_succ]
   exact List.perm_middle
  exact ((List.Perm.append_left V.L (map_m_perm q)).trans List.perm_middle)
 have g:=gd_perm p k.gd
 have g2:=(gd_cons.1 g)
 have t2:=t.release hj
 rw [e2,←hL,←hH] at t2
 have hlen:(rlL V.l V.h id).length+1=V.l.length:=by rw [hL,List.length_eraseIdx_of_lt hj];omega
 refine ⟨⟨k.n1,k.n2,k.hh,t2,k.sp,?_,g2.2.1,fun N hN=>k.own N (p.mem_iff.2 (List.mem_cons_of_mem _ hN))⟩,p,by rw [hM];exact e2,hlen,j,hj,hM.symm⟩
 show V.L.length+(rlL V.l V.h id).length≤V.n
 have:=k.room
 omega
/-- What was released fits. -/
theorem Vs.Ok.back (k:V.Ok) (e:rlE V.l V.h id=0):Fits (V.rel id) (rlM V.l V.h id):=by
 obtain ⟨k2,p,-,hl,-⟩:=k.rel e
 have g2:=gd_cons.1 (gd_perm p k.gd)
 exact ⟨g2.1,k.own _ (p.mem_iff.2 (List.mem_cons_self ..)),by have:=k.room;show V.L.length+(V.rel id).l.length<V.n;omega,g2.2.2⟩
/-- A grant to a valid shard. -/
theorem Vs.Ok.gr (k:V.Ok) (f:Fits V x.m) (ok:leOk x):grE V.l V.h x=0∧(V.gr x).Ok∧(V.gr x).al.Perm (x.m::V.al)∧(V.gr x).l=kIns Le.id V.l x:=by
 have hl:V.l.length<12:=by have:=f.room;have:=k.n2;omega
 have hf:kFi Le.id V.l x.id<0:=by
  rw [kFi_none fun b hb e=>?_];decide
  exact f.new b.m (List.mem_append_right _ (List.mem_map.2 ⟨b,hb,rfl⟩)) e
 have e:grE V.l V.h x=0:=by
  obtain ⟨h2,h3,h4,h5⟩:=ok
  unfold grE
  rw [if_neg (by simpa using (tbV_iff V.l V.h).2 k.tb),if_neg (by simpa using h2),if_neg h3,if_neg (by omega),if_neg (by omega),if_neg (by omega)]
 have eL:grL V.l V.h x=kIns Le.id V.l x:=if_pos e
 have eH:grH V.l V.h x=hpu V.h x.du:=if_pos e
 have t:=k.tb.grant ok ok.snd hl hf
 have p:(V.gr x).al.Perm (x.m::V.al):=by
  show (V.L++(grL V.l V.h x).map Le.m).Perm (x.m::(V.L++V.l.map Le.m))
  rw [eL]
  exact (List.Perm.append_left V.L (map_m_perm (kIns_perm V.l x))).trans List.perm_middle
 refine ⟨e,⟨k.n1,k.n2,k.hh,by show TbOk (grL V.l V.h x) (grH V.l V.h x);rw [eL,eH];exact t,k.sp,?_,gd_perm p.symm (gd_cons.2 ⟨f.vf,k.gd,f.new⟩),fun N hN=>?_⟩,p,eL⟩
 ·show V.L.length+(grL V.l V.h x).length≤V.n
  rw [eL,kIns_len];have:=f.room;omega
 ·rcases List.mem_cons.1 (p.mem_iff.1 hN) with e | e
  ·rw [e];exact f.own
  ·exact k.own N e
/-- An extension in a valid shard. -/
theorem Vs.Ok.ext (k:V.Ok) (e:exE V.l V.h id dl=0):(V.ext id dl).Ok∧(V.ext id dl).al=V.al∧∃ j,∃ hj:j<V.l.length,V.l[j].id=id∧(V.ext id dl).l=V.l.set j (V.l[j].till dl):=by
 obtain ⟨t,j,hj,-,e2,hH,hL⟩:=exE_at e
 obtain ⟨e0,d0,d1⟩:=exE_zero e
 have ok:=t.ok _ (List.getElem_mem hj)
 have ok2:leOk (V.l[j].till dl):=⟨ok.1,ok.2.1,d0,d1⟩
 have t2:=t.extend hj ok2 ok2.snd rfl
 have h1:(V.ext id dl).l=V.l.set j (V.l[j].till dl):=hL
 have hH2:exH V.l V.h id dl=hpu (rmR V.h id) ⟨dl,id⟩:=if_pos e
 have hm:(V.l.set j (V.l[j].till dl)).map Le.m=V.l.map Le.m:=by
  apply List.ext_getElem
  ·simp
  ·intro i h1 h2
   simp only [List.getElem_map,List.getElem_set]
   split
   ·rename_i e;subst e;rfl
   ·rfl
 have hal:(V.ext id dl).al=V.al:=by
  show V.L++(exL V.l V.h id dl).map Le.m=_
  rw [hL,hm];rfl
 refine ⟨⟨k.n1,k.n2,k.hh,?_,k.sp,?_,by rw [hal];exact k.gd,by rw [hal];exact k.own⟩,hal,j,hj,e2,hL⟩
 ·show TbOk (exL V.l V.h id dl) (exH V.l V.h id dl)
  have e3:(V.l[j].till dl).du=⟨dl,id⟩:=by show Du.mk dl V.l[j].id=_;rw [e2]
  rw [hL,hH2,←e2]
  rw [e3] at t2
  rw [←e2] at t2
  exact t2
 ·show V.L.length+(exL V.l V.h id dl).length≤V.n
  rw [hL,List.length_set];exact k.room
end
end Go.Proofs.YtncgbldcjfbknaaGreat
namespace Go.Proofs.YtncgbldcjfbknaaGreat
open Go.RowKit
set_option linter.unusedVariables false
/-- What Deliver returns. -/
def dlE (M:Msg):Int:=if vf M=0 then (if M.gn=65536 then 6 else if M.ct=8 then 7 else 0) else vf M
def dlM (M:Msg):Msg:=if dlE M=0 then ⟨M.id,M.rt,M.ep,M.ct+1,M.gn+1,M.st,M.bd⟩ else zM
theorem dl_not (M:Msg) (e:Int) (h:dlE M=e) (h0:e≠0):dlM M=zM:=by unfold dlM;rw [if_neg (by omega)]
set_option maxHeartbeats 2000000 in
theorem deliver_any (M:Msg) (w:World):Calls Tryz.prog 48 #[M.v] w fun e w'=>e=.returned (.tuple #[(dlM M).v,.int .i64 (dlE M)])∧Below w.heap.size w w':=by
 have HC:=Lh (fun w=>validate_any M w)
 by_cases h:vf M=0
 ·rw [h] at HC
  by_cases hg:M.gn=65536
  ·have he:dlE M=6:=by unfold dlE;rw [if_pos h,if_pos hg]
   have HF:=Lh (dl_not M 6 he (by omega))
   have HE:=Lh he
   have hg' : (M.gn==65536)=true:=beq_iff_eq.2 hg
   clear h he hg
   go_enter Tryz.func48,Tryz.ntmps48
   go_wp2_with fail
   refine (HC.out _).mono ?_
   rintro e w1 ⟨rfl,hb⟩
   obtain ⟨hc,hf⟩:=bcell hb
   have hz:=hb.size
   simp at hz
   have hlt:w.heap.size<w.heap.size+1+1:=by omega
   have hz0:w.heap.size<w1.heap.size:=by omega
   have HB1:=Lh ((((Below.refl w.heap.size w).alloc (Nat.le_refl _) _).alloc (by simp) _).trans (hb.mono (by simp <;> omega)))
   clear hb
   go_wp2
   exact bodyPost_ret (v:=.tuple #[.agg #[.int .i64 0,.int .i64 0,.int .i64 0,.int .i64 0,.int .i64 0,.int .i64 0,.string ByteArray.empty],.int .i64 6]) (by simp only [results,Tryz.results48];go_simp <;> rfl) rfl ⟨by rw [HF.out,HE.out] <;> rfl,below7 HB1.out (by simp) _ _ _ _ _ _ _⟩
  ·have hg' : (M.gn==65536)=false:=beq_eq_false_iff_ne.2 hg
   by_cases hq:M.ct=8
   ·have he:dlE M=7:=by unfold dlE;rw [if_pos h,if_neg hg,if_pos hq]
    have HF:=Lh (dl_not M 7 he (by omega))
    have HE:=Lh he
    have hq' : (M.ct==8)=true:=beq_iff_eq.2 hq
    clear h he hg hq
    go_enter Tryz.func48,Tryz.ntmps48
    go_wp2_with fail
    refine (HC.out _).mono ?_
    rintro e w1 ⟨rfl,hb⟩
    obtain ⟨hc,hf⟩:=bcell hb
    have hz:=hb.size
    simp at hz
    have hlt:w.heap.size<w.heap.size+1+1:=by omega
    have hz0:w.heap.size<w1.heap.size:=by omega
    have HB1:=Lh ((((Below.refl w.heap.size w).alloc (Nat.le_refl _) _).alloc (by simp) _).trans (hb.mono (by simp <;> omega)))
    clear hb
    go_wp2
    exact bodyPost_ret (v:=.tuple #[.agg #[.int .i64 0,.int .i64 0,.int .i64 0,.int .i64 0,.int .i64 0,.int .i64 0,.string ByteArray.empty],.int .i64 7]) (by simp only [results,Tryz.results48];go_simp <;> rfl) rfl ⟨by rw [HF.out,HE.out] <;> rfl,below7 HB1.out (by simp) _ _ _ _ _ _ _⟩
   ·have he:dlE M=0:=by unfold dlE;rw [if_pos h,if_neg hg,if_neg hq]
    have HF:=Lh (show dlM M=⟨M.id,M.rt,M.ep,M.ct+1,M.gn+1,M.st,M.bd⟩ from if_pos he)
    have HE:=Lh he
    have hq' : (M.ct==8)=false:=beq_eq_false_iff_ne.2 hq
    obtain ⟨_,_,_,⟨q0,q1⟩,⟨g0,g1⟩,_,_⟩:=vf_ok h
    clear h he hg hq
    go_enter Tryz.func48,Tryz.ntmps48
    go_wp2_with fail
    refine (HC.out _).mono ?_
    rintro e w1 ⟨rfl,hb⟩
    obtain ⟨hc,hf⟩:=bcell hb
    have hz:=hb.size
    simp at hz
    have hlt:w.heap.size<w.heap.size+1+1:=by omega
    have hz0:w.heap.size<w1.heap.size:=by omega
    have HB1:=Lh ((((Below.refl w.heap.size w).alloc (Nat.le_refl _) _).alloc (by simp) _).trans (hb.mono (by simp <;> omega)))
    clear hb
    go_wp2
    exact bodyPost_ret (v:=.tuple #[Msg.v ⟨M.id,M.rt,M.ep,M.ct+1,M.gn+1,M.st,M.bd⟩,.int .i64 0]) (by simp only [results,Tryz.results48];go_simp <;> rfl) rfl ⟨by rw [HF.out,HE.out] <;> rfl,below7 ((HB1.out.setCell (by simp) _).setCell (by simp) _) (by simp) _ _ _ _ _ _ _⟩
 ·have he:dlE M=vf M:=if_neg h
  have HF:=Lh (dl_not M _ he h)
  have HE:=Lh he
  have hne:(vf M != 0)=true:=bne_iff_ne.2 h
  generalize vf M=k at*
  clear h he
  go_enter Tryz.func48,Tryz.ntmps48
  go_wp2_with fail
  refine (HC.out _).mono ?_
  rintro e w1 ⟨rfl,hb⟩
  obtain ⟨hc,hf⟩:=bcell hb
  have hz:=hb.size
  simp at hz
  have hlt:w.heap.size<w.heap.size+1+1:=by omega
  have hz0:w.heap.size<w1.heap.size:=by omega
  have HB1:=Lh ((((Below.refl w.heap.size w).alloc (Nat.le_refl _) _).alloc (by simp) _).trans (hb.mono (by simp <;> omega)))
  clear hb
  go_wp2
  exact bodyPost_ret (v:=.tuple #[.agg #[.int .i64 0,.int .i64 0,.int .i64 0,.int .i64 0,.int .i64 0,.int .i64 0,.string ByteArray.empty],.int .i64 k]) (by simp only [results,Tryz.results48];go_simp <;> rfl) rfl ⟨by rw [HF.out,HE.out] <;> rfl,below7 HB1.out (by simp) _ _ _ _ _ _ _⟩
end Go.Proofs.YtncgbldcjfbknaaGreat
/- Plain: picking the first messages that are wanted; granting them. -/
namespace Go.Proofs.YtncgbldcjfbknaaGreat
open Go.RowKit
set_option linter.unusedVariables false
/-- One step of picking: what was picked, what stays. -/
def pkS (mx:Nat) (p:Msg→Bool) (s:List Msg×List Msg) (M:Msg):List Msg×List Msg:=if s.1.length<mx∧p M=true then (s.1++[M],s.2) else (s.1,s.2++[M])
def pk (mx:Nat) (p:Msg→Bool) (L:List Msg):List Msg×List Msg:=L.foldl (pkS mx p) ([],[])
section
variable {mx:Nat} {p:Msg→Bool} {L:List Msg} {M:Msg} {i:Nat}
theorem pk_snoc:pk mx p (L++[M])=pkS mx p (pk mx p L) M:=by unfold pk;rw [List.foldl_append];rfl
theorem pk_next (hi:i<L.length):pk mx p (L.take (i+1))=pkS mx p (pk mx p (L.take i)) L[i]:=by rw [←List.take_append_getElem hi,pk_snoc]
theorem pk_yes (hi:i<L.length) (h1:(pk mx p (L.take i)).1.length<mx) (h2:p L[i]=true):pk mx p (L.take (i+1))=((pk mx p (L.take i)).1++[L[i]],(pk mx p (L.take i)).2):=by rw [pk_next hi];exact if_pos ⟨h1,h2⟩
theorem pk_no (hi:i<L.length) (h:¬((pk mx p (L.take i)).1.length<mx∧p L[i]=true)):pk mx p (L.take (i+1))=((pk mx p (L.take i)).1,(pk mx p (L.take i)).2++[L[i]]):=by rw [pk_next hi];exact if_neg h
theorem pk_perm (mx:Nat) (p:Msg→Bool):∀ (r L:List Msg),L=r.reverse→((pk mx p L).1++(pk mx p L).2).Perm L
 | [],L,e=>by subst e;exact List.Perm.refl _
 | M::r,L,e=>by
  subst e
  rw [List.reverse_cons,pk_snoc]
  have ih:=pk_perm mx p r r.reverse rfl
  unfold pkS
  split
  ·rw [List.append_assoc]
   refine (List.perm_middle (a:=M) (l₁:=(pk mx p r.reverse).1) (l₂:=(pk mx p r.reverse).2)).trans ?_
   exact (ih.cons M).trans (List.perm_append_singleton _ _).symm
  ·rw [←List.append_assoc]
   exact ih.append_right [M]
theorem pk_permL (mx:Nat) (p:Msg→Bool) (L:List Msg):((pk mx p L).1++(pk mx p L).2).Perm L:=pk_perm mx p L.reverse L (by simp)
theorem pk_subR (mx:Nat) (p:Msg→Bool):∀ (r L:List Msg),L=r.reverse→List.Sublist (pk mx p L).2 L∧List.Sublist (pk mx p L).1 L∧∀ M∈(pk mx p L).1,p M=true
 | [],L,e=>by subst e;exact ⟨List.Sublist.refl _,List.Sublist.refl _,fun M h=>by cases h⟩
 | M::r,L,e=>by
  subst e
  rw [List.reverse_cons,pk_snoc]
  obtain ⟨h1,h2,h3⟩:=pk_subR mx p r r.reverse rfl
  unfold pkS
  split
  ·rename_i hc
   refine ⟨h1.trans (List.sublist_append_left _ _),h2.append (List.Sublist.refl _),fun N hN=>?_⟩
   rcases List.mem_append.1 hN with h | h
   ·exact h3 N h
   ·rw [List.mem_singleton.1 h];exact hc.2
  ·exact ⟨h1.append (List.Sublist.refl _),h2.trans (List.sublist_append_left _ _),h3⟩
theorem pk_sub (mx:Nat) (p:Msg→Bool) (L:List Msg):List.Sublist (pk mx p L).2 L∧List.Sublist (pk mx p L).1 L∧∀ M∈(pk mx p L).1,p M=true:=pk_subR mx p L.reverse L (by simp)
/-- What is in the ring while messages are picked. -/
def pkL (mx:Nat) (p:Msg→Bool) (L:List Msg) (i:Nat):List Msg:=(pk mx p (L.take i)).2++L.drop i
theorem pkL_zero:pkL mx p L 0=L:=by simp [pkL,pk]
theorem pkL_end:pkL mx p L L.length=(pk mx p L).2:=by simp [pkL]
theorem pkL_sub (i:Nat):List.Sublist (pkL mx p L i) L:=by
 unfold pkL
 conv=>rhs;rw [←List.take_append_drop i L]
 exact (pk_sub mx p (L.take i)).1.append (List.Sublist.refl _)
theorem pkL_at (hi:i<L.length):∃ h:(pk mx p (L.take i)).2.length<(pkL mx p L i).length,(pkL mx p L i)[(pk mx p (L.take i)).2.length]=L[i]:=by
 have hl:(pkL mx p L i).length=(pk mx p (L.take i)).2.length+(L.length - i):=by simp [pkL]
 refine ⟨by omega,?_⟩
 simp [pkL]
theorem pkL_yes (hi:i<L.length) (h1:(pk mx p (L.take i)).1.length<mx) (h2:p L[i]=true):pkL mx p L (i+1)=(pkL mx p L i).eraseIdx (pk mx p (L.take i)).2.length:=by
 unfold pkL
 rw [pk_yes hi h1 h2,List.drop_eq_getElem_cons hi,List.eraseIdx_append_of_length_le (Nat.le_refl _),Nat.sub_self]
 rfl
theorem pkL_no (hi:i<L.length) (h:¬((pk mx p (L.take i)).1.length<mx∧p L[i]=true)):pkL mx p L (i+1)=pkL mx p L i:=by
 unfold pkL
 rw [pk_no hi h,List.drop_eq_getElem_cons hi,List.append_assoc]
 rfl
end
/-- A shard with other messages in its ring. -/
def Vs.ring (V:Vs) (L:List Msg):Vs:=⟨V.lo,V.hi,V.n,V.hd,L,V.l,V.h⟩
/-- Grants to what was picked. -/
noncomputable def Vs.grs (dl:Int) (V:Vs) (T:List Msg):Vs:=T.foldl (fun V M=>V.gr ⟨dlM M,dl⟩) V
/-- What Take makes of a shard. -/
noncomputable def Vs.take (V:Vs) (mx:Nat) (p:Msg→Bool) (dl:Int):Vs:=(V.ring (pk mx p V.L).2).grs dl (pk mx p V.L).1
section
variable {V:Vs} {dl:Int}
theorem grs_snoc (V:Vs) (dl:Int) (T:List Msg) (M:Msg):V.grs dl (T++[M])=(V.grs dl T).gr ⟨dlM M,dl⟩:=by unfold Vs.grs;rw [List.foldl_append];rfl
theorem grs_cons (V:Vs) (dl:Int) (T:List Msg) (M:Msg):V.grs dl (M::T)=(V.gr ⟨dlM M,dl⟩).grs dl T:=rfl
theorem ring_ok (k:V.Ok) {L:List Msg} (hs:List.Sublist L V.L):(V.ring L).Ok:=by
 have hsub:List.Sublist (V.ring L).al V.al:=hs.append (List.Sublist.refl _)
 exact ⟨k.n1,k.n2,k.hh,k.tb,k.sp,by have:=k.room;have:=hs.length_le;show L.length+V.l.length≤V.n;omega,gd_sub hsub k.gd,fun M hM=>k.own M (hsub.subset hM)⟩
/-- Grants to messages that fit. -/
theorem grs_ok:∀ (T:List Msg) (V:Vs),V.Ok→Gd (T.map dlM++V.al)→(∀ M∈T,V.lo≤(dlM M).rt∧(dlM M).rt≤V.hi)→V.L.length+V.l.length+T.length≤V.n→(∀ M∈T,leOk ⟨dlM M,dl⟩)→
  (V.grs dl T).Ok∧(V.grs dl T).al.Perm (T.map dlM++V.al)∧(∀ x,x∈(V.grs dl T).l↔x∈V.l∨∃ M∈T,x=⟨dlM M,dl⟩)
 | [],V,k,_,_,_,_=>⟨k,List.Perm.refl _,fun x=>⟨.inl,fun h=>h.elim id (fun ⟨M,hM,_⟩=>by cases hM)⟩⟩
 | M::T,V,k,hg,ho,hr,hl=>by
  have hg2:=gd_cons.1 (show Gd (dlM M::(T.map dlM++V.al)) from hg)
  simp only [List.length_cons] at hr
  have f:Fits V (⟨dlM M,dl⟩:Le).m:=⟨hg2.1,ho M (List.mem_cons_self ..),by omega,fun N hN=>hg2.2.2 N (List.mem_append_right _ hN)⟩
  obtain ⟨-,k2,p2,e2⟩:=k.gr (x:=⟨dlM M,dl⟩) f (hl M (List.mem_cons_self ..))
  have hlen:(V.gr ⟨dlM M,dl⟩).l.length=V.l.length+1:=by rw [e2,kIns_len]
  have hp:(T.map dlM++(V.gr ⟨dlM M,dl⟩).al).Perm ((M::T).map dlM++V.al):=(p2.append_left _).trans List.perm_middle
  obtain ⟨k3,p3,m3⟩:=grs_ok T (V.gr ⟨dlM M,dl⟩) k2 (gd_perm hp.symm hg) (fun N hN=>ho N (List.mem_cons_of_mem _ hN)) (by rw [hlen];show V.L.length+(V.l.length+1)+T.length≤V.n;omega) (fun N hN=>hl N (List.mem_cons_of_mem _ hN))
  rw [grs_cons]
  refine ⟨k3,p3.trans hp,fun x=>(m3 x).trans ?_⟩
  rw [e2,(kIns_perm V.l ⟨dlM M,dl⟩).mem_iff,List.mem_cons]
  constructor
  ·rintro ((h | h) | ⟨N,hN,h⟩)
   ·exact .inr ⟨M,List.mem_cons_self ..,h⟩
   ·exact .inl h
   ·exact .inr ⟨N,List.mem_cons_of_mem _ hN,h⟩
  ·rintro (h | ⟨N,hN,h⟩)
   ·exact .inl (.inr h)
   ·rcases List.mem_cons.1 hN with e | e
    ·subst e;exact .inl (.inl h)
    ·exact .inr ⟨N,e,h⟩
end
theorem rvF_iff {M:Msg} {ep lim:Int}:rvF M ep lim=true↔ep≤M.ep∧M.ct<lim∧M.gn<65536:=by
 unfold rvF puF spF
 simp only [Bool.and_eq_true,Bool.not_eq_true',decide_eq_false_iff_not,decide_eq_true_eq]
 omega
/-- A receivable message is delivered. -/
theorem dl_rv {M:Msg} {ep lim:Int} (hM:vf M=0) (h:rvF M ep lim=true) (hl:lim≤8):dlM M=⟨M.id,M.rt,M.ep,M.ct+1,M.gn+1,M.st,M.bd⟩:=by
 obtain ⟨h1,h2,h3⟩:=rvF_iff.1 h
 have e:dlE M=0:=by unfold dlE;rw [if_pos hM,if_neg (by omega),if_neg (by omega)]
 unfold dlM
 rw [if_pos e]
end Go.Proofs.YtncgbldcjfbknaaGreat
namespace Go.Proofs.YtncgbldcjfbknaaGreat
open Go.RowKit
set_option linter.unusedVariables false
/-- The boxes of the epoch and of the limit that Take's function value holds. -/
def CapAt (b1 b2:Nat) (ep lim:Int) (W:World):Prop:=W.cell? ⟨b1,0,none⟩=some (.int .i64 ep)∧W.cell? ⟨b2,0,none⟩=some (.int .i64 lim)∧b1<W.heap.size∧b2<W.heap.size
theorem CapAt.below {b1 b2:Nat} {ep lim:Int} {w W:World} (h:CapAt b1 b2 ep lim w) (hb:Below w.heap.size w W):CapAt b1 b2 ep lim W:=
 ⟨(hb.cell (p:=⟨b1,0,none⟩) h.2.2.1).trans h.1,(hb.cell (p:=⟨b2,0,none⟩) h.2.2.2).trans h.2.1,Nat.lt_of_lt_of_le h.2.2.1 hb.size,Nat.lt_of_lt_of_le h.2.2.2 hb.size⟩
set_option maxHeartbeats 1000000 in
theorem take1_any (b1 b2:Nat) (ep lim:Int) (M:Msg) (w:World) (h:CapAt b1 b2 ep lim w) :
  Calls Tryz.prog 46 #[M.v,.pointer (some ⟨b1,0,none⟩),.pointer (some ⟨b2,0,none⟩)] w fun e w'=>e=.returned (.bool (rvF M ep lim))∧Below w.heap.size w w':=by
 have HB:=Lh ((Below.refl w.heap.size w).alloc (Nat.le_refl _) (.cells M.cs 56))
 have HR:=Lh (fun W=>receivable_any M ep lim W)
 obtain ⟨h1,h2,h3,h4⟩:=h
 generalize rvF M ep lim=b at*
 go_enter Tryz.func46,Tryz.ntmps46
 go_wp2_with fail
 refine (HR.out _).mono ?_
 rintro e w1 ⟨rfl,hb⟩
 have HB1:=Lh (HB.out.trans (hb.mono HB.out.size))
 clear hb
 go_wp2
 go_ret
 exact ⟨rfl,HB1.out⟩
section
variable {V:Vs} {mx:Nat} {f:Msg→Bool} {i:Nat}
/-- What a removal from a shard's ring gives while messages are pulled. -/
theorem pull_rm (k:V.Ok) (hi:i<V.L.length) (h1:(pk mx f (V.L.take i)).1.length<mx) (h2:f V.L[i]=true) {S S' : Sh} (hS:S=(V.ring (pkL mx f V.L i)).sh) (hS' : S' = (V.ring (pkL mx f V.L (i+1))).sh) :
  S' = ⟨S.lv,S.lo,S.hi,rmC S.cs S.hd S.sz V.L[i].id,ifE (rmE S.cs S.hd S.sz V.L[i].id) S.hd,ifE (rmE S.cs S.hd S.sz V.L[i].id) (S.sz - 1),S.l,S.h⟩:=by
 subst hS hS'
 obtain ⟨hj,ej⟩:=pkL_at (mx:=mx) (p:=f) hi
 have hs:=pkL_sub (mx:=mx) (p:=f) (L:=V.L) i
 have hg:=gd_sub hs k.gL
 have hl:(pkL mx f V.L i).length≤V.n:=by have:=hs.length_le;have:=k.lenL;omega
 obtain ⟨e1,e2,-⟩:=rm_fil k.n1 k.n2 k.hh hl hg hj
 rw [ej] at e1 e2
 rw [←pkL_yes hi h1 h2] at e2
 have el:((pkL mx f V.L (i+1)).length:Int)=((pkL mx f V.L i).length:Int) - 1:=by
  rw [pkL_yes hi h1 h2,List.length_eraseIdx_of_lt hj];omega
 show Sh.mk true V.lo V.hi (fil V.n V.hd (pkL mx f V.L (i+1))) V.hd (pkL mx f V.L (i+1)).length V.l V.h=Sh.mk true V.lo V.hi (rmC (fil V.n V.hd (pkL mx f V.L i)) V.hd (pkL mx f V.L i).length V.L[i].id) (ifE (rmE (fil V.n V.hd (pkL mx f V.L i)) V.hd (pkL mx f V.L i).length V.L[i].id) V.hd) (ifE (rmE (fil V.n V.hd (pkL mx f V.L i)) V.hd (pkL mx f V.L i).length V.L[i].id) ((pkL mx f V.L i).length - 1)) V.l V.h
 rw [e1,e2,el]
 rfl
end
/-- A shard and a list of messages as a result. -/
def SLs (w:World) (S:Sh) (l:List Msg) (e:Ending) (w' : World):Prop:=∃ D A c,e=.returned (.tuple #[sv S D,.slice A l.length c])∧D.nw w.heap.size∧SR w' w'.heap.size S D∧Nw w.heap.size A∧Ls w' w'.heap.size (.slice A l.length c) l∧Below w.heap.size w w'
theorem Ls.grownR {W W' : World} {B n c:Nat} {A:Option Addr} {l:List Msg} (h:Ls W B (.slice A n c) l) (hB:B≤W.heap.size) {row:Option Nat} (hg:W.grownBy W' row) (ho:∀ q,row=some q→OffB q n A):Ls W' B (.slice A n c) l:=by
 obtain ⟨h1,h2,h3⟩:=h.len
 subst h1
 refine ⟨A,c,rfl,h2,h3,h.rd.1,fun hn=>?_⟩
 obtain ⟨b,o,e,hb,hc⟩:=h.rd.2 hn
 exact ⟨b,o,e,hb,fun j u hu=>(hg.cell_far ⟨b,o+j,none⟩ (Nat.lt_of_lt_of_le hb hB) (fun e'=>ho b e'.symm hn _ e rfl)).trans (hc j u hu)⟩
theorem El.grownR {W W' : World} {B n c:Nat} {A:Option Addr} {l:List Le} (h:El W B (.slice A n c) l) (hB:B≤W.heap.size) {row:Option Nat} (hg:W.grownBy W' row) (ho:∀ q,row=some q→OffB q n A):El W' B (.slice A n c) l:=by
 obtain ⟨h1,h2,h3⟩:=h.len
 subst h1
 refine ⟨A,c,rfl,h2,h3,h.rd.1,fun hn=>?_⟩
 obtain ⟨b,o,e,hb,hc⟩:=h.rd.2 hn
 exact ⟨b,o,e,hb,fun j u hu=>(hg.cell_far ⟨b,o+j,none⟩ (Nat.lt_of_lt_of_le hb hB) (fun e'=>ho b e'.symm hn _ e rfl)).trans (hc j u hu)⟩
theorem Dl.grownR {W W' : World} {B n c:Nat} {A:Option Addr} {l:List Du} (h:Dl W B (.slice A n c) l) (hB:B≤W.heap.size) {row:Option Nat} (hg:W.grownBy W' row) (ho:∀ q,row=some q→OffB q n A):Dl W' B (.slice A n c) l:=by
 obtain ⟨h1,h2,h3⟩:=h.len
 subst h1
 refine ⟨A,c,rfl,h2,h3,h.rd.1,fun hn=>?_⟩
 obtain ⟨b,o,e,hb,hc⟩:=h.rd.2 hn
 exact ⟨b,o,e,hb,fun j u hu=>(hg.cell_far ⟨b,o+j,none⟩ (Nat.lt_of_lt_of_le hb hB) (fun e'=>ho b e'.symm hn _ e rfl)).trans (hc j u hu)⟩
theorem SAt.grown {w W W' : World} {p:Nat} {S:Sh} {D:Sx} (h:SAt w p S D W) {row:Option Nat} (hg:W.grownBy W' row) (ho:∀ q,row=some q→SOff S D q∧p<q):SAt w p S D W':=
 ⟨h.s8.grown hg (fun x e=>by have:=(ho x e).2;omega),⟨(h.sr.ls.grownR (Nat.le_refl _) hg (fun q e=>(ho q e).1.o1)).more hg.size,(h.sr.el.grownR (Nat.le_refl _) hg (fun q e=>(ho q e).1.o2)).more hg.size,(h.sr.dl.grownR (Nat.le_refl _) hg (fun q e=>(ho q e).1.o3)).more hg.size⟩,h.off,
  h.bel.grown hg h.bel.size (fun x e=>by have:=(ho x e).2;have:=h.old;omega),h.old⟩
/-- The work of pull: the shard, the result box, the list that is gone through, the list that is made. -/
structure PullAt (w:World) (p r B:Nat) (S:Sh) (D:Sx) (A0:Option Addr) (c0:Nat) (L:List Msg) (lv:Value) (T:List Msg) (W:World):Prop where
 sa:SAt w p S D W
 rs:SB8 W r zS zX
 l0:Ls W B (.slice A0 L.length c0) L
 o0:OffB p L.length A0
 own:W.ownsRow B 56 7 lv T.length (lcs T)
 dj:∀ q,lv.ownBlock=some q→SOff S D q
 dr:D.nw (r+1)
 ne:p<r∧r<B∧B≤W.heap.size
section
variable {w W W' : World} {p r B c0:Nat} {S:Sh} {D:Sx} {A0:Option Addr} {L T:List Msg} {lv:Value}
theorem own_below {base e size n:Nat} {v:Value} {xs:List Value} (h:W.ownsRow base e size v n xs) (hb:Below W.heap.size W W'):W'.ownsRow base e size v n xs:=by
 refine ⟨h.1,h.2.imp_right fun ⟨g,cap,cur,hv,hg,hh,r⟩=>⟨g,cap,cur,hv,hg,?_,r⟩⟩
 rw [←hh]
 exact hb.block g (Array.getElem?_eq_some_iff.1 hh).1
theorem own_set {base e size n:Nat} {v:Value} {xs:List Value} (h:W.ownsRow base e size v n xs) {q:Addr} (hq:q.block<base) (u:Value):(W.setCell q u).ownsRow base e size v n xs:=by
 refine ⟨h.1,h.2.imp_right fun ⟨g,cap,cur,hv,hg,hh,r⟩=>⟨g,cap,cur,hv,hg,?_,r⟩⟩
 rw [←hh]
 exact Below.heap_setCell W q u g (by omega)
theorem own_sets {base e size n:Nat} {v:Value} {xs:List Value} {r:Nat} (hr:r<base):∀ (vs:List Value) (m:Nat) (W:World),W.ownsRow base e size v n xs→(W.setCells r m vs).ownsRow base e size v n xs
 | [],_,_,h=>h
 | u::vs,m,W,h=>own_sets hr vs (m+1) _ (own_set h (q:=⟨r,m,none⟩) hr u)
theorem PullAt.below (h:PullAt w p r B S D A0 c0 L lv T W) (hb:Below W.heap.size W W'):PullAt w p r B S D A0 c0 L lv T W':=
 ⟨h.sa.below hb,h.rs.up hb,h.l0.below (hb.mono h.ne.2.2),h.o0,own_below h.own hb,h.dj,h.dr,h.ne.1,h.ne.2.1,Nat.le_trans h.ne.2.2 hb.size⟩
/-- Another ring. -/
theorem PullAt.setRing {A:Option Addr} {c:Nat} {cs:List Msg} (h:PullAt w p r B S D A0 c0 L lv T W) (hd sz:Int) (hl:Ls W W.heap.size (.slice A cs.length c) cs) {lo:Nat} (hn:Nw lo A) (hlo:B≤lo) (hrow:∀ q,lv.ownBlock=some q→q<lo) :
  PullAt w p r B ⟨S.lv,S.lo,S.hi,cs,hd,sz,S.l,S.h⟩ ⟨A,c,D.A2,D.c2,D.A3,D.c3⟩ A0 c0 L lv T (((W.setCell ⟨p,3,none⟩ (.slice A cs.length c)).setCell ⟨p,4,none⟩ (.int .i64 hd)).setCell ⟨p,5,none⟩ (.int .i64 sz)):=by
 have hne:=h.ne
 exact ⟨h.sa.setRing hd sz hl (offb_nw hn (by omega)),((h.rs.other (q:=⟨p,3,none⟩) (show p≠r by omega) _).other (q:=⟨p,4,none⟩) (show p≠r by omega) _).other (q:=⟨p,5,none⟩) (show p≠r by omega) _,
  ((h.l0.offp (p:=⟨p,3,none⟩) h.o0 _).offp (p:=⟨p,4,none⟩) h.o0 _).offp (p:=⟨p,5,none⟩) h.o0 _,h.o0,
  own_set (own_set (own_set h.own (q:=⟨p,3,none⟩) (show p<B by omega) _) (q:=⟨p,4,none⟩) (show p<B by omega) _) (q:=⟨p,5,none⟩) (show p<B by omega) _,
  fun q e=>⟨offb_nw hn (hrow q e),(h.dj q e).o2,(h.dj q e).o3⟩,⟨nw_low hn (by omega),h.dr.n2,h.dr.n3⟩,hne.1,hne.2.1,by simpa using hne.2.2⟩
/-- A message more. -/
theorem PullAt.app {lv' : Value} {T' : List Msg} (h:PullAt w p r B S D A0 c0 L lv T W) (ho:W'.ownsRow B 56 7 lv' T'.length (lcs T')) (hg:W.grownBy W' lv.ownBlock) (hw:∀ q,lv'.ownBlock=some q→lv.ownBlock=some q∨W.heap.size≤q):PullAt w p r B S D A0 c0 L lv' T' W':=by
 have hne:=h.ne
 have hlt:∀ q,lv.ownBlock=some q→B≤q:=fun q e=>(h.own.lt q e).1
 refine ⟨h.sa.grown hg (fun q e=>⟨h.dj q e,by have:=hlt q e;omega⟩),h.rs.grown hg (fun q e=>by have:=hlt q e;omega),h.l0.grownR hne.2.2 hg (fun q e=>?_),h.o0,ho,fun q e=>?_,h.dr,hne.1,hne.2.1,Nat.le_trans hne.2.2 hg.size⟩
 ·exact rd_off h.l0.rd (hlt q e)
 ·rcases hw q e with e' | e'
  ·exact h.dj q e'
  ·exact h.sa.sr.offs e'
end
/-- What giving back to the end of the deque makes of a shard. -/
noncomputable def gbB (S:Sh) (id:Int):Sh:=⟨S.lv,S.lo,S.hi,pbC S.cs S.hd S.sz (rlM S.l S.h id),ifE (puE S.cs S.hd S.sz (rlM S.l S.h id)) S.hd,ifE (puE S.cs S.hd S.sz (rlM S.l S.h id)) (S.sz+1),rlL S.l S.h id,rlH S.l S.h id⟩
/-- What Nack's push gives. -/
noncomputable def nkC (cs:List Msg) (hd sz:Int) (M:Msg) (lim:Int):List Msg:=if spF M lim=true then pbC cs hd sz M else pfC cs hd sz M
noncomputable def nkH (cs:List Msg) (hd sz:Int) (M:Msg) (lim:Int):Int:=if spF M lim=true then ifE (puE cs hd sz M) hd else pfH cs hd sz M
/-- What giving back by Nack makes of a shard. -/
noncomputable def gbN (S:Sh) (id lim:Int):Sh:=⟨S.lv,S.lo,S.hi,nkC S.cs S.hd S.sz (rlM S.l S.h id) lim,nkH S.cs S.hd S.sz (rlM S.l S.h id) lim,ifE (puE S.cs S.hd S.sz (rlM S.l S.h id)) (S.sz+1),rlL S.l S.h id,rlH S.l S.h id⟩
theorem gbB_sh {V:Vs} {id:Int} (k:V.Ok) (e:rlE V.l V.h id=0):gbB V.sh id=((V.rel id).push (rlM V.l V.h id)).sh∧((V.rel id).push (rlM V.l V.h id)).Ok:=by
 have f:=k.back e
 have k2:=(k.rel e).1
 obtain ⟨p1,p2⟩:=k2.pb f
 refine ⟨?_,k2.push f⟩
 show Sh.mk true V.lo V.hi (pbC (fil V.n V.hd V.L) V.hd V.L.length (rlM V.l V.h id)) (ifE (puE (fil V.n V.hd V.L) V.hd V.L.length (rlM V.l V.h id)) V.hd) (ifE (puE (fil V.n V.hd V.L) V.hd V.L.length (rlM V.l V.h id)) (V.L.length+1)) (rlL V.l V.h id) (rlH V.l V.h id)=Sh.mk true V.lo V.hi (fil V.n V.hd (V.L++[rlM V.l V.h id])) V.hd (V.L++[rlM V.l V.h id]).length (rlL V.l V.h id) (rlH V.l V.h id)
 rw [show puE (fil V.n V.hd V.L) V.hd V.L.length (rlM V.l V.h id)=0 from p1,show pbC (fil V.n V.hd V.L) V.hd V.L.length (rlM V.l V.h id)=fil V.n V.hd (V.L++[rlM V.l V.h id]) from p2]
 simp [ifE]
theorem gbN_sh {V:Vs} {id lim:Int} (k:V.Ok) (e:rlE V.l V.h id=0):gbN V.sh id lim=(if spF (rlM V.l V.h id) lim=true then (V.rel id).push (rlM V.l V.h id) else (V.rel id).front (rlM V.l V.h id)).sh∧(if spF (rlM V.l V.h id) lim=true then (V.rel id).push (rlM V.l V.h id) else (V.rel id).front (rlM V.l V.h id)).Ok:=by
 have f:=k.back e
 have k2:=(k.rel e).1
 by_cases hs:spF (rlM V.l V.h id) lim=true
 ·rw [if_pos hs]
  refine ⟨?_,k2.push f⟩
  rw [←(gbB_sh k e).1]
  have hs' : spF (rlM V.sh.l V.sh.h id) lim=true:=hs
  unfold gbN gbB nkC nkH
  rw [if_pos hs',if_pos hs']
 ·rw [if_neg hs]
  obtain ⟨p1,p2,p3⟩:=k2.pf f
  refine ⟨?_,k2.front f⟩
  have e1:puE (fil V.n V.hd V.L) V.hd V.L.length (rlM V.l V.h id)=0:=p1
  have e2:pfC (fil V.n V.hd V.L) V.hd V.L.length (rlM V.l V.h id)=fil V.n ((V.hd+(V.n - 1)) % V.n) (rlM V.l V.h id::V.L):=p2
  have e3:pfH (fil V.n V.hd V.L) V.hd V.L.length (rlM V.l V.h id)=((V.hd+(V.n - 1)) % V.n:Nat):=p3
  have hs' : ¬spF (rlM V.sh.l V.sh.h id) lim=true:=hs
  unfold gbN nkC nkH
  rw [if_neg hs',if_neg hs']
  show Sh.mk true V.lo V.hi (pfC (fil V.n V.hd V.L) V.hd V.L.length (rlM V.l V.h id)) (pfH (fil V.n V.hd V.L) V.hd V.L.length (rlM V.l V.h id)) (ifE (puE (fil V.n V.hd V.L) V.hd V.L.length (rlM V.l V.h id)) (V.L.length+1)) (rlL V.l V.h id) (rlH V.l V.h id)=Sh.mk true V.lo V.hi (fil V.n ((V.hd+(V.n - 1)) % V.n) (rlM V.l V.h id::V.L)) ((V.hd+(V.n - 1)) % V.n:Nat) (rlM V.l V.h id::V.L).length (rlL V.l V.h id) (rlH V.l V.h id)
  rw [e1,e2,e3]
  simp [ifE]
set_option maxHeartbeats 4000000 in
set_option maxRecDepth 20000 in
theorem nack1_any (A:Option Addr) (n c:Nat) (cs:List Msg) (hd sz:Int) (M:Msg) (b:Nat) (lim:Int) (w:World) (hv:Ls w w.heap.size (.slice A n c) cs) (hc:w.cell? ⟨b,0,none⟩=some (.int .i64 lim)) (hb:b<w.heap.size) :
  Calls Tryz.prog 52 #[.agg #[.slice A n c,.int .i64 hd,.int .i64 sz],M.v,.pointer (some ⟨b,0,none⟩)] w (RP w (nkC cs hd sz M lim) (nkH cs hd sz M lim) (ifE (puE cs hd sz M) (sz+1)) (puE cs hd sz M)):=by
 obtain ⟨rfl,hm1,hm2⟩:=hv.len
 have HV:=Lh hv
 have HR0:=Lh (((RgAt.start w A cs.length c hd sz 27).alloc (.cells #[.int .i64 M.id,.int .i64 M.rt,.int .i64 M.ep,.int .i64 M.ct,.int .i64 M.gn,.int .i64 M.st,.string M.bd] 56)).alloc (.cells #[.slice none 0 0,.int .i64 0,.int .i64 0] 27))
 have HM0:=Lh (show MBx (((w.alloc (.cells #[.slice A cs.length c,.int .i64 hd,.int .i64 sz] 27)).alloc (.cells #[.int .i64 M.id,.int .i64 M.rt,.int .i64 M.ep,.int .i64 M.ct,.int .i64 M.gn,.int .i64 M.st,.string M.bd] 56)).alloc (.cells #[.slice none 0 0,.int .i64 0,.int .i64 0] 27)) (w.heap.size+1) M from by
  have h:=MBx.start (w.alloc (.cells #[.slice A cs.length c,.int .i64 hd,.int .i64 sz] 27)) M 56
  rw [show (w.alloc (.cells #[.slice A cs.length c,.int .i64 hd,.int .i64 sz] 27)).heap.size=w.heap.size+1 by simp] at h
  exact h.up ((Below.refl _ _).alloc (Nat.le_refl _) _))
 have HZ0:=Lh (show RB (((w.alloc (.cells #[.slice A cs.length c,.int .i64 hd,.int .i64 sz] 27)).alloc (.cells #[.int .i64 M.id,.int .i64 M.rt,.int .i64 M.ep,.int .i64 M.ct,.int .i64 M.gn,.int .i64 M.st,.string M.bd] 56)).alloc (.cells #[.slice none 0 0,.int .i64 0,.int .i64 0] 27)) (w.heap.size+1+1) none 0 0 0 0 from by
  have h:=RB.fresh ((w.alloc (.cells #[.slice A cs.length c,.int .i64 hd,.int .i64 sz] 27)).alloc (.cells #[.int .i64 M.id,.int .i64 M.rt,.int .i64 M.ep,.int .i64 M.ct,.int .i64 M.gn,.int .i64 M.st,.string M.bd] 56)) none 0 0 0 0 27
  rw [show ((w.alloc (.cells #[.slice A cs.length c,.int .i64 hd,.int .i64 sz] 27)).alloc (.cells #[.int .i64 M.id,.int .i64 M.rt,.int .i64 M.ep,.int .i64 M.ct,.int .i64 M.gn,.int .i64 M.st,.string M.bd] 56)).heap.size=w.heap.size+1+1 by simp] at h
  exact h)
 have HC:=Lh ((HR0.out.bel.cell (p:=⟨b,0,none⟩) hb).trans hc)
 have HBL:=Lh (show b<(((w.alloc (.cells #[.slice A cs.length c,.int .i64 hd,.int .i64 sz] 27)).alloc (.cells #[.int .i64 M.id,.int .i64 M.rt,.int .i64 M.ep,.int .i64 M.ct,.int .i64 M.gn,.int .i64 M.st,.string M.bd] 56)).alloc (.cells #[.slice none 0 0,.int .i64 0,.int .i64 0] 27)).heap.size by simp;omega)
 have HSP:=Lh (fun W=>spent_any M lim W)
 have HPB:=Lh (fun W (h:Ls W W.heap.size (.slice A cs.length c) cs)=>pback_any A cs.length c cs hd sz M W h)
 have HPF:=Lh (fun W (h:Ls W W.heap.size (.slice A cs.length c) cs)=>pfront_any A cs.length c cs hd sz M W h)
 clear hv hc hb hm1 hm2
 generalize ifE (puE cs hd sz M) (sz+1)=zz at*
 generalize hsp:spF M lim=sp at*
 have HSPF:=Lh hsp
 clear hsp
 obtain ⟨pE,hpE⟩:∃ pE,pE=puE cs hd sz M:=⟨_,rfl⟩
 have HPE:=Lh hpE
 rw [←hpE]
 have HPE2:Hid (puE cs hd sz M=pE):=Lh hpE.symm
 rw [←hpE] at HPF
 clear hpE
 go_enter Tryz.func52,Tryz.ntmps52
 obtain ⟨x0,x1,x2,xl⟩:=HR0.out.facts
 obtain ⟨v0,v1,v2,v3,v4,v5,v6⟩:=HM0.out.m7
 have vl:=HM0.out.lt
 have c0:=HC.out
 have cl:=HBL.out
 go_wp2_with fail
 obtain ⟨p,hp⟩:∃ p,p=w.heap.size:=⟨_,rfl⟩
 obtain ⟨q,hq⟩:∃ q,q=w.heap.size+1:=⟨_,rfl⟩
 obtain ⟨r,hr⟩:∃ r,r=w.heap.size+1+1:=⟨_,rfl⟩
 have HRR:=Lh (show w.heap.size≤r by omega)
 clear x0 x1 x2 xl v0 v1 v2 v3 v4 v5 v6 vl c0 cl
 rw [←hr,←hq,←hp]
 rw [←hp] at HR0
 rw [←hq] at HM0
 rw [←hr] at HZ0
 clear hp hq hr HC HBL
 generalize (((w.alloc (.cells #[.slice A cs.length c,.int .i64 hd,.int .i64 sz] 27)).alloc (.cells #[.int .i64 M.id,.int .i64 M.rt,.int .i64 M.ep,.int .i64 M.ct,.int .i64 M.gn,.int .i64 M.st,.string M.bd] 56)).alloc (.cells #[.slice none 0 0,.int .i64 0,.int .i64 0] 27))=w3 at*
 refine (HSP.out _).mono ?_
 rintro e w4 ⟨rfl,hb⟩
 have HR1:=Lh (HR0.out.below hb)
 have HM1:=Lh (HM0.out.up hb)
 have HZ1:=Lh (HZ0.out.below hb HZ0.out.lt)
 clear hb
 obtain ⟨x0,x1,x2,xl⟩:=HR1.out.facts
 obtain ⟨v0,v1,v2,v3,v4,v5,v6⟩:=HM1.out.m7
 have vl:=HM1.out.lt
 cases sp with
 | true=>
  obtain ⟨xs,hxs⟩:∃ xs,xs=pbC cs hd sz M:=⟨_,rfl⟩
  obtain ⟨xh,hxh⟩:∃ xh,xh=ifE (puE cs hd sz M) hd:=⟨_,rfl⟩
  have HNC:=Lh (show nkC cs hd sz M lim=xs by unfold nkC;rw [if_pos HSPF.out,hxs])
  have HNH:=Lh (show nkH cs hd sz M lim=xh by unfold nkH;rw [if_pos HSPF.out,hxh])
  rw [←hxs,←hxh,HPE2.out] at HPB
  clear hxs hxh
  go_wp2_with fail
  clear x0 x1 x2 xl v0 v1 v2 v3 v4 v5 v6 vl
  refine (HPB.out _ ((HV.out.below HR1.out.bel).more HR1.out.bel.size)).mono ?_
  rintro e w5 ⟨A5,c5,rfl,hn,hl,hb⟩
  have HR2:=Lh (HR1.out.below hb)
  have HZ2:=Lh (HZ1.out.below hb HZ1.out.lt)
  have HF:=Lh (show RP w (nkC cs hd sz M lim) (nkH cs hd sz M lim) zz pE (.returned (.tuple #[.agg #[.slice A5 xs.length c5,.int .i64 xh,.int .i64 zz],.int .i64 pE])) (((w5.setCell ⟨r,0,none⟩ (.slice A5 xs.length c5)).setCell ⟨r,1,none⟩ (.int .i64 xh)).setCell ⟨r,2,none⟩ (.int .i64 zz)) from by
   rw [HNC.out,HNH.out]
   exact ⟨A5,c5,rfl,nw_low hn HR1.out.bel.size,(hl.off3 hn HZ1.out.lt _ _ _).more (by simp),bst (bst (bst HR2.out.bel (p:=⟨r,0,none⟩) HRR.out _) (p:=⟨r,1,none⟩) HRR.out _) (p:=⟨r,2,none⟩) HRR.out _⟩)
  clear hn hl hb
  obtain ⟨r0,r1,r2,r3,r4,r5,rl⟩:=HZ2.out.facts
  go_wp2
  exact bodyPost_ret (v:=.tuple #[.agg #[.slice A5 xs.length c5,.int .i64 xh,.int .i64 zz],.int .i64 pE]) (by simp only [results,Tryz.results52];go_simp <;> rfl) rfl HF.out
 | false=>
  have hsp' : ¬spF M lim=true:=by rw [HSPF.out];decide
  obtain ⟨xs,hxs⟩:∃ xs,xs=pfC cs hd sz M:=⟨_,rfl⟩
  obtain ⟨xh,hxh⟩:∃ xh,xh=pfH cs hd sz M:=⟨_,rfl⟩
  have HNC:=Lh (show nkC cs hd sz M lim=xs by unfold nkC;rw [if_neg hsp',hxs])
  have HNH:=Lh (show nkH cs hd sz M lim=xh by unfold nkH;rw [if_neg hsp',hxh])
  rw [←hxs,←hxh] at HPF
  clear hxs hxh hsp'
  go_wp2_with fail
  clear x0 x1 x2 xl v0 v1 v2 v3 v4 v5 v6 vl
  refine (HPF.out _ ((HV.out.below HR1.out.bel).more HR1.out.bel.size)).mono ?_
  rintro e w5 ⟨A5,c5,rfl,hn,hl,hb⟩
  have HR2:=Lh (HR1.out.below hb)
  have HZ2:=Lh (HZ1.out.below hb HZ1.out.lt)
  have HF:=Lh (show RP w (nkC cs hd sz M lim) (nkH cs hd sz M lim) zz pE (.returned (.tuple #[.agg #[.slice A5 xs.length c5,.int .i64 xh,.int .i64 zz],.int .i64 pE])) (((w5.setCell ⟨r,0,none⟩ (.slice A5 xs.length c5)).setCell ⟨r,1,none⟩ (.int .i64 xh)).setCell ⟨r,2,none⟩ (.int .i64 zz)) from by
   rw [HNC.out,HNH.out]
   exact ⟨A5,c5,rfl,nw_low hn HR1.out.bel.size,(hl.off3 hn HZ1.out.lt _ _ _).more (by simp),bst (bst (bst HR2.out.bel (p:=⟨r,0,none⟩) HRR.out _) (p:=⟨r,1,none⟩) HRR.out _) (p:=⟨r,2,none⟩) HRR.out _⟩)
  clear hn hl hb
  obtain ⟨r0,r1,r2,r3,r4,r5,rl⟩:=HZ2.out.facts
  go_wp2
  exact bodyPost_ret (v:=.tuple #[.agg #[.slice A5 xs.length c5,.int .i64 xh,.int .i64 zz],.int .i64 pE]) (by simp only [results,Tryz.results52];go_simp <;> rfl) rfl HF.out
set_option maxHeartbeats 8000000 in
set_option maxRecDepth 20000 in
theorem giveback_any (S:Sh) (D:Sx) (id:Int) (w:World) (hs:SR w w.heap.size S D) :
  Calls Tryz.prog 51 #[sv S D,.int .i64 id,.func (.func 54) #[] #[]] w (SV w (gbB S id)):=by
 have H0:=Lh ((SAt.start 33 hs).alloc (.cells #[.bool false,.int .i64 0,.int .i64 0,.slice none 0 0,.int .i64 0,.int .i64 0,.slice none 0 0,.slice none 0 0] 33))
 have R0:=Lh (SB8.zero (w.alloc (.cells #[.bool S.lv,.int .i64 S.lo,.int .i64 S.hi,.slice D.A S.cs.length D.c,.int .i64 S.hd,.int .i64 S.sz,.slice D.A2 S.l.length D.c2,.slice D.A3 S.h.length D.c3] 33)) 33)
 have HRL:=Lh (fun p W (q:SAt w p S D W)=>lrelease_any D.A2 S.l.length D.c2 S.l D.A3 S.h.length D.c3 S.h id W q.sr.el q.sr.dl)
 have HPB:=Lh (fun p (l:List Le) (hh:List Du) D W (q:SAt w p ⟨S.lv,S.lo,S.hi,S.cs,S.hd,S.sz,l,hh⟩ D W)=>pback_any D.A S.cs.length D.c S.cs S.hd S.sz (rlM S.l S.h id) W q.sr.ls)
 obtain ⟨T,hT⟩:∃ T,T=(gbB S id):=⟨_,rfl⟩
 have HTT:=Lh (show T=⟨S.lv,S.lo,S.hi,pbC S.cs S.hd S.sz (rlM S.l S.h id),ifE (puE S.cs S.hd S.sz (rlM S.l S.h id)) S.hd,ifE (puE S.cs S.hd S.sz (rlM S.l S.h id)) (S.sz+1),rlL S.l S.h id,rlH S.l S.h id⟩ from hT)
 rw [←hT]
 clear hT hs
 generalize rlL S.l S.h id=gl at*
 generalize rlH S.l S.h id=gh at*
 generalize rlE S.l S.h id=rE at*
 generalize rlM S.l S.h id=M at*
 generalize pbC S.cs S.hd S.sz M=cs at*
 generalize ifE (puE S.cs S.hd S.sz M) S.hd=hd at*
 generalize ifE (puE S.cs S.hd S.sz M) (S.sz+1)=sz at*
 generalize puE S.cs S.hd S.sz M=pE at*
 go_enter Tryz.func51,Tryz.ntmps51
 obtain ⟨t0,t1,t2,t3,t4,t5,t6,t7,tl⟩:=H0.out.s8.facts
 go_wp2_with fail
 clear t0 t1 t2 t3 t4 t5 t6 t7 tl
 obtain ⟨p,hp⟩:∃ p,p=w.heap.size:=⟨_,rfl⟩
 obtain ⟨r,hr⟩:∃ r,r=w.heap.size+1:=⟨_,rfl⟩
 have e1:(w.alloc (.cells #[.bool S.lv,.int .i64 S.lo,.int .i64 S.hi,.slice D.A S.cs.length D.c,.int .i64 S.hd,.int .i64 S.sz,.slice D.A2 S.l.length D.c2,.slice D.A3 S.h.length D.c3] 33)).heap.size=r:=by rw [hr];simp
 rw [e1] at R0
 have HPR:=Lh (show ¬p=r∧¬r=p∧w.heap.size≤p∧p<r by omega)
 rw [←hr,←hp]
 rw [←hp] at H0
 clear e1 hp hr
 generalize ((w.alloc (.cells #[.bool S.lv,.int .i64 S.lo,.int .i64 S.hi,.slice D.A S.cs.length D.c,.int .i64 S.hd,.int .i64 S.sz,.slice D.A2 S.l.length D.c2,.slice D.A3 S.h.length D.c3] 33)).alloc (.cells #[.bool false,.int .i64 0,.int .i64 0,.slice none 0 0,.int .i64 0,.int .i64 0,.slice none 0 0,.slice none 0 0] 33))=w1 at*
 refine (HRL.out _ _ H0.out).mono ?_
 rintro e w2 ⟨A3,c3,A4,c4,rfl,n3,n4,h3,h4,hb⟩
 have H1:=Lh (H0.out.below hb)
 have R1:=Lh (R0.out.up hb)
 have H2:=Lh (H1.out.setTab h3 h4 (offb_nw n3 H0.out.lt) (offb_nw n4 H0.out.lt))
 have R2:=Lh ((R1.out.other (q:=⟨p,6,none⟩) HPR.out.1 (.slice A3 gl.length c3)).other (q:=⟨p,7,none⟩) HPR.out.1 (.slice A4 gh.length c4))
 have H3:=Lh (show SAt w p ⟨S.lv,S.lo,S.hi,S.cs,S.hd,S.sz,gl,gh⟩ ⟨D.A,D.c,A3,c3,A4,c4⟩ ((((w2.setCell ⟨p,6,none⟩ (.slice A3 gl.length c3)).setCell ⟨p,7,none⟩ (.slice A4 gh.length c4)).alloc (.cells #[.slice A3 gl.length c3,.slice A4 gh.length c4] 31)).alloc (.cells #[.int .i64 M.id,.int .i64 M.rt,.int .i64 M.ep,.int .i64 M.ct,.int .i64 M.gn,.int .i64 M.st,.string M.bd] 56)) from (H2.out.alloc _).alloc _)
 have R3:=Lh (show SB8 ((((w2.setCell ⟨p,6,none⟩ (.slice A3 gl.length c3)).setCell ⟨p,7,none⟩ (.slice A4 gh.length c4)).alloc (.cells #[.slice A3 gl.length c3,.slice A4 gh.length c4] 31)).alloc (.cells #[.int .i64 M.id,.int .i64 M.rt,.int .i64 M.ep,.int .i64 M.ct,.int .i64 M.gn,.int .i64 M.st,.string M.bd] 56)) r zS zX from (R2.out.up ((Below.refl _ _).alloc (Nat.le_refl _) _)).up ((Below.refl _ _).alloc (Nat.le_refl _) _))
 have N3:=Lh (show Nw (r+1) A3∧Nw (r+1) A4 from ⟨nw_low n3 R0.out.lt,nw_low n4 R0.out.lt⟩)
 have HPW:=Lh (show p<w2.heap.size∧r<w2.heap.size from ⟨H1.out.lt,R1.out.lt⟩)
 clear n3 n4 h3 h4 hb
 obtain ⟨⟨t0,t1,t2,t3,t4,t5,t6,t7,tl⟩,⟨f0,f1,f2,f3,f4,f5,f6,f7⟩⟩:=H1.out.s8.all
 go_wp2_with fail
 clear t0 t1 t2 t3 t4 t5 t6 t7 tl f0 f1 f2 f3 f4 f5 f6 f7
 generalize ((((w2.setCell ⟨p,6,none⟩ (.slice A3 gl.length c3)).setCell ⟨p,7,none⟩ (.slice A4 gh.length c4)).alloc (.cells #[.slice A3 gl.length c3,.slice A4 gh.length c4] 31)).alloc (.cells #[.int .i64 M.id,.int .i64 M.rt,.int .i64 M.ep,.int .i64 M.ct,.int .i64 M.gn,.int .i64 M.st,.string M.bd] 56))=w4 at*
 refine (HPB.out _ gl gh _ _ H3.out).mono ?_
 rintro e w5 ⟨A6,c6,rfl,hn6,hl6,hb⟩
 have H5:=Lh (H3.out.below hb)
 have R5:=Lh (R3.out.up hb)
 have H6:=Lh (H5.out.setRing hd sz hl6 (offb_nw hn6 H3.out.lt))
 have N6:=Lh (show Nw (r+1) A6 from nw_low hn6 R3.out.lt)
 clear hn6 hl6 hb
 have HF:=Lh (show SV w T (.returned (.agg #[.bool S.lv,.int .i64 S.lo,.int .i64 S.hi,.slice A6 cs.length c6,.int .i64 hd,.int .i64 sz,.slice A3 gl.length c3,.slice A4 gh.length c4])) (((((((((((w5.setCell ⟨p,3,none⟩ (.slice A6 cs.length c6)).setCell ⟨p,4,none⟩ (.int .i64 hd)).setCell ⟨p,5,none⟩ (.int .i64 sz)).setCell ⟨r,0,none⟩ (.bool S.lv)).setCell ⟨r,1,none⟩ (.int .i64 S.lo)).setCell ⟨r,2,none⟩ (.int .i64 S.hi)).setCell ⟨r,3,none⟩ (.slice A6 cs.length c6)).setCell ⟨r,4,none⟩ (.int .i64 hd)).setCell ⟨r,5,none⟩ (.int .i64 sz)).setCell ⟨r,6,none⟩ (.slice A3 gl.length c3)).setCell ⟨r,7,none⟩ (.slice A4 gh.length c4)) from by
  rw [HTT.out]
  have hne:=HPR.out
  exact ⟨⟨A6,c6,A3,c3,A4,c4⟩,rfl,⟨nw_low N6.out (by omega),nw_low N3.out.1 (by omega),nw_low N3.out.2 (by omega)⟩,SR.sets (S:=⟨S.lv,S.lo,S.hi,cs,hd,sz,gl,gh⟩) (D:=⟨A6,c6,A3,c3,A4,c4⟩) ⟨offb_nw N6.out (Nat.lt_succ_self r),offb_nw N3.out.1 (Nat.lt_succ_self r),offb_nw N3.out.2 (Nat.lt_succ_self r)⟩ (Sh.l8 ⟨S.lv,S.lo,S.hi,cs,hd,sz,gl,gh⟩ ⟨A6,c6,A3,c3,A4,c4⟩) 0 _ H6.out.sr,set8s_below (show w.heap.size≤r by omega) H6.out.bel ⟨S.lv,S.lo,S.hi,cs,hd,sz,gl,gh⟩ ⟨A6,c6,A3,c3,A4,c4⟩⟩)
 obtain ⟨⟨t0,t1,t2,t3,t4,t5,t6,t7,tl⟩,⟨f0,f1,f2,f3,f4,f5,f6,f7⟩⟩:=H5.out.s8.all
 obtain ⟨⟨r0,r1,r2,r3,r4,r5,r6,r7,rl⟩,⟨g0,g1,g2,g3,g4,g5,g6,g7⟩⟩:=R5.out.all
 obtain ⟨hpr,hrp,-,-⟩:=HPR.out
 go_wp2
 exact bodyPost_ret (v:=.agg #[.bool S.lv,.int .i64 S.lo,.int .i64 S.hi,.slice A6 cs.length c6,.int .i64 hd,.int .i64 sz,.slice A3 gl.length c3,.slice A4 gh.length c4]) (by simp only [results,Tryz.results51];go_simp <;> rfl) rfl HF.out
set_option maxHeartbeats 8000000 in
set_option maxRecDepth 20000 in
theorem givenack_any (S:Sh) (D:Sx) (id:Int) (b:Nat) (lim:Int) (w:World) (hs:SR w w.heap.size S D) (hc:w.cell? ⟨b,0,none⟩=some (.int .i64 lim)) (hb:b<w.heap.size) :
  Calls Tryz.prog 51 #[sv S D,.int .i64 id,.func (.func 52) #[] #[.pointer (some ⟨b,0,none⟩)]] w (SV w (gbN S id lim)):=by
 have H0:=Lh ((SAt.start 33 hs).alloc (.cells #[.bool false,.int .i64 0,.int .i64 0,.slice none 0 0,.int .i64 0,.int .i64 0,.slice none 0 0,.slice none 0 0] 33))
 have R0:=Lh (SB8.zero (w.alloc (.cells #[.bool S.lv,.int .i64 S.lo,.int .i64 S.hi,.slice D.A S.cs.length D.c,.int .i64 S.hd,.int .i64 S.sz,.slice D.A2 S.l.length D.c2,.slice D.A3 S.h.length D.c3] 33)) 33)
 have HRL:=Lh (fun p W (q:SAt w p S D W)=>lrelease_any D.A2 S.l.length D.c2 S.l D.A3 S.h.length D.c3 S.h id W q.sr.el q.sr.dl)
 have HPB:=Lh (fun p (l:List Le) (hh:List Du) D W (q:SAt w p ⟨S.lv,S.lo,S.hi,S.cs,S.hd,S.sz,l,hh⟩ D W)=>nack1_any D.A S.cs.length D.c S.cs S.hd S.sz (rlM S.l S.h id) b lim W q.sr.ls ((q.bel.cell (p:=⟨b,0,none⟩) hb).trans hc) (Nat.lt_of_lt_of_le hb q.bel.size))
 clear hc hb
 obtain ⟨T,hT⟩:∃ T,T=(gbN S id lim):=⟨_,rfl⟩
 have HTT:=Lh (show T=⟨S.lv,S.lo,S.hi,nkC S.cs S.hd S.sz (rlM S.l S.h id) lim,nkH S.cs S.hd S.sz (rlM S.l S.h id) lim,ifE (puE S.cs S.hd S.sz (rlM S.l S.h id)) (S.sz+1),rlL S.l S.h id,rlH S.l S.h id⟩ from hT)
 rw [←hT]
 clear hT hs
 generalize rlL S.l S.h id=gl at*
 generalize rlH S.l S.h id=gh at*
 generalize rlE S.l S.h id=rE at*
 generalize rlM S.l S.h id=M at*
 generalize nkC S.cs S.hd S.sz M lim=cs at*
 generalize nkH S.cs S.hd S.sz M lim=hd at*
 generalize ifE (puE S.cs S.hd S.sz M) (S.sz+1)=sz at*
 generalize puE S.cs S.hd S.sz M=pE at*
 go_enter Tryz.func51,Tryz.ntmps51
 obtain ⟨t0,t1,t2,t3,t4,t5,t6,t7,tl⟩:=H0.out.s8.facts
 go_wp2_with fail
 clear t0 t1 t2 t3 t4 t5 t6 t7 tl
 obtain ⟨p,hp⟩:∃ p,p=w.heap.size:=⟨_,rfl⟩
 obtain ⟨r,hr⟩:∃ r,r=w.heap.size+1:=⟨_,rfl⟩
 have e1:(w.alloc (.cells #[.bool S.lv,.int .i64 S.lo,.int .i64 S.hi,.slice D.A S.cs.length D.c,.int .i64 S.hd,.int .i64 S.sz,.slice D.A2 S.l.length D.c2,.slice D.A3 S.h.length D.c3] 33)).heap.size=r:=by rw [hr];simp
 rw [e1] at R0
 have HPR:=Lh (show ¬p=r∧¬r=p∧w.heap.size≤p∧p<r by omega)
 rw [←hr,←hp]
 rw [←hp] at H0
 clear e1 hp hr
 generalize ((w.alloc (.cells #[.bool S.lv,.int .i64 S.lo,.int .i64 S.hi,.slice D.A S.cs.length D.c,.int .i64 S.hd,.int .i64 S.sz,.slice D.A2 S.l.length D.c2,.slice D.A3 S.h.length D.c3] 33)).alloc (.cells #[.bool false,.int .i64 0,.int .i64 0,.slice none 0 0,.int .i64 0,.int .i64 0,.slice none 0 0,.slice none 0 0] 33))=w1 at*
 refine (HRL.out _ _ H0.out).mono ?_
 rintro e w2 ⟨A3,c3,A4,c4,rfl,n3,n4,h3,h4,hb⟩
 have H1:=Lh (H0.out.below hb)
 have R1:=Lh (R0.out.up hb)
 have H2:=Lh (H1.out.setTab h3 h4 (offb_nw n3 H0.out.lt) (offb_nw n4 H0.out.lt))
 have R2:=Lh ((R1.out.other (q:=⟨p,6,none⟩) HPR.out.1 (.slice A3 gl.length c3)).other (q:=⟨p,7,none⟩) HPR.out.1 (.slice A4 gh.length c4))
 have H3:=Lh (show SAt w p ⟨S.lv,S.lo,S.hi,S.cs,S.hd,S.sz,gl,gh⟩ ⟨D.A,D.c,A3,c3,A4,c4⟩ ((((w2.setCell ⟨p,6,none⟩ (.slice A3 gl.length c3)).setCell ⟨p,7,none⟩ (.slice A4 gh.length c4)).alloc (.cells #[.slice A3 gl.length c3,.slice A4 gh.length c4] 31)).alloc (.cells #[.int .i64 M.id,.int .i64 M.rt,.int .i64 M.ep,.int .i64 M.ct,.int .i64 M.gn,.int .i64 M.st,.string M.bd] 56)) from (H2.out.alloc _).alloc _)
 have R3:=Lh (show SB8 ((((w2.setCell ⟨p,6,none⟩ (.slice A3 gl.length c3)).setCell ⟨p,7,none⟩ (.slice A4 gh.length c4)).alloc (.cells #[.slice A3 gl.length c3,.slice A4 gh.length c4] 31)).alloc (.cells #[.int .i64 M.id,.int .i64 M.rt,.int .i64 M.ep,.int .i64 M.ct,.int .i64 M.gn,.int .i64 M.st,.string M.bd] 56)) r zS zX from (R2.out.up ((Below.refl _ _).alloc (Nat.le_refl _) _)).up ((Below.refl _ _).alloc (Nat.le_refl _) _))
 have N3:=Lh (show Nw (r+1) A3∧Nw (r+1) A4 from ⟨nw_low n3 R0.out.lt,nw_low n4 R0.out.lt⟩)
 have HPW:=Lh (show p<w2.heap.size∧r<w2.heap.size from ⟨H1.out.lt,R1.out.lt⟩)
 clear n3 n4 h3 h4 hb
 obtain ⟨⟨t0,t1,t2,t3,t4,t5,t6,t7,tl⟩,⟨f0,f1,f2,f3,f4,f5,f6,f7⟩⟩:=H1.out.s8.all
 go_wp2_with fail
 clear t0 t1 t2 t3 t4 t5 t6 t7 tl f0 f1 f2 f3 f4 f5 f6 f7
 generalize ((((w2.setCell ⟨p,6,none⟩ (.slice A3 gl.length c3)).setCell ⟨p,7,none⟩ (.slice A4 gh.length c4)).alloc (.cells #[.slice A3 gl.length c3,.slice A4 gh.length c4] 31)).alloc (.cells #[.int .i64 M.id,.int .i64 M.rt,.int .i64 M.ep,.int .i64 M.ct,.int .i64 M.gn,.int .i64 M.st,.string M.bd] 56))=w4 at*
 refine (HPB.out _ gl gh _ _ H3.out).mono ?_
 rintro e w5 ⟨A6,c6,rfl,hn6,hl6,hb⟩
 have H5:=Lh (H3.out.below hb)
 have R5:=Lh (R3.out.up hb)
 have H6:=Lh (H5.out.setRing hd sz hl6 (offb_nw hn6 H3.out.lt))
 have N6:=Lh (show Nw (r+1) A6 from nw_low hn6 R3.out.lt)
 clear hn6 hl6 hb
 have HF:=Lh (show SV w T (.returned (.agg #[.bool S.lv,.int .i64 S.lo,.int .i64 S.hi,.slice A6 cs.length c6,.int .i64 hd,.int .i64 sz,.slice A3 gl.length c3,.slice A4 gh.length c4])) (((((((((((w5.setCell ⟨p,3,none⟩ (.slice A6 cs.length c6)).setCell ⟨p,4,none⟩ (.int .i64 hd)).setCell ⟨p,5,none⟩ (.int .i64 sz)).setCell ⟨r,0,none⟩ (.bool S.lv)).setCell ⟨r,1,none⟩ (.int .i64 S.lo)).setCell ⟨r,2,none⟩ (.int .i64 S.hi)).setCell ⟨r,3,none⟩ (.slice A6 cs.length c6)).setCell ⟨r,4,none⟩ (.int .i64 hd)).setCell ⟨r,5,none⟩ (.int .i64 sz)).setCell ⟨r,6,none⟩ (.slice A3 gl.length c3)).setCell ⟨r,7,none⟩ (.slice A4 gh.length c4)) from by
  rw [HTT.out]
  have hne:=HPR.out
  exact ⟨⟨A6,c6,A3,c3,A4,c4⟩,rfl,⟨nw_low N6.out (by omega),nw_low N3.out.1 (by omega),nw_low N3.out.2 (by omega)⟩,SR.sets (S:=⟨S.lv,S.lo,S.hi,cs,hd,sz,gl,gh⟩) (D:=⟨A6,c6,A3,c3,A4,c4⟩) ⟨offb_nw N6.out (Nat.lt_succ_self r),offb_nw N3.out.1 (Nat.lt_succ_self r),offb_nw N3.out.2 (Nat.lt_succ_self r)⟩ (Sh.l8 ⟨S.lv,S.lo,S.hi,cs,hd,sz,gl,gh⟩ ⟨A6,c6,A3,c3,A4,c4⟩) 0 _ H6.out.sr,set8s_below (show w.heap.size≤r by omega) H6.out.bel ⟨S.lv,S.lo,S.hi,cs,hd,sz,gl,gh⟩ ⟨A6,c6,A3,c3,A4,c4⟩⟩)
 obtain ⟨⟨t0,t1,t2,t3,t4,t5,t6,t7,tl⟩,⟨f0,f1,f2,f3,f4,f5,f6,f7⟩⟩:=H5.out.s8.all
 obtain ⟨⟨r0,r1,r2,r3,r4,r5,r6,r7,rl⟩,⟨g0,g1,g2,g3,g4,g5,g6,g7⟩⟩:=R5.out.all
 obtain ⟨hpr,hrp,-,-⟩:=HPR.out
 go_wp2
 exact bodyPost_ret (v:=.agg #[.bool S.lv,.int .i64 S.lo,.int .i64 S.hi,.slice A6 cs.length c6,.int .i64 hd,.int .i64 sz,.slice A3 gl.length c3,.slice A4 gh.length c4]) (by simp only [results,Tryz.results51];go_simp <;> rfl) rfl HF.out
end Go.Proofs.YtncgbldcjfbknaaGreat
