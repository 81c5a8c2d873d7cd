/- What is proved here: Tbe; (plain) lists of leases that lie in memory, blocks of leases that may be written; Tvd; Purged of message, by one contract for all arguments; Twd. -/
import Derived.Test.YtncgbldcjfbknaaGreatJ09
/- Plain: tables: a list of deadlines in ascending order of the IDs, and a heap that consists of its elements. -/
namespace Go.Proofs.YtncgbldcjfbknaaGreat
set_option linter.unusedVariables false
theorem du_ext {a b:Du} (h1:a.dl=b.dl) (h2:a.id=b.id):a=b:=by cases a;cases b;cases h1;cases h2;rfl
instance:DecidableEq Du:=fun a b=>if h:a.dl=b.dl∧a.id=b.id then isTrue (du_ext h.1 h.2) else isFalse fun e=>h (by subst e;exact ⟨rfl,rfl⟩)
theorem perm_of_sub:∀ {h K:List Du},h.Nodup→(∀ d∈h,d∈K)→K.length≤h.length→h.Perm K
 | [],K,_,_,hl=>by
  have:K=[]:=List.eq_nil_of_length_eq_zero (Nat.le_zero.1 hl)
  subst this;exact List.Perm.refl _
 | d::h,K,hn,hs,hl=>by
  have hd:=hs d (List.mem_cons_self ..)
  have hp:=List.perm_cons_erase hd
  obtain ⟨h1,h2⟩:=List.nodup_cons.1 hn
  have hk:(K.erase d).length+1=K.length:=hp.length_eq.symm
  have ih:=perm_of_sub (h:=h) (K:=K.erase d) h2 (fun x hx=>(List.mem_erase_of_ne (fun e=>by subst e;exact h1 hx)).2 (hs x (List.mem_cons_of_mem _ hx))) (by simp only [List.length_cons] at hl;omega)
  exact (ih.cons d).trans hp.symm
def ofT (K h:List Du):Bool:=decide (h.length=K.length∧∀ d∈h,d∈K)
theorem ofT_iff {K h:List Du}:ofT K h=true↔h.length=K.length∧∀ d∈h,d∈K:=decide_eq_true_iff
theorem nodup_of_ids {h:List Du} (hn:(h.map Du.id).Nodup):h.Nodup:=(List.pairwise_map.1 hn).imp fun h e=>h (by rw [e])
theorem ofT_perm {K h:List Du} (hn:(h.map Du.id).Nodup):ofT K h=true↔h.Perm K:=by
 refine ofT_iff.trans ⟨fun ⟨h1,h2⟩=>perm_of_sub (nodup_of_ids hn) h2 (by omega),fun h=>⟨h.length_eq,fun d hd=>h.mem_iff.1 hd⟩⟩
theorem mem_kFi {K:List Du} (hK:Asc Du.id K) (d:Du):d∈K↔∃ (k:Nat) (hk:k<K.length),kFi Du.id K d.id=k∧K[k].dl=d.dl:=by
 constructor
 ·intro hd
  obtain ⟨k,hk,e⟩:=List.mem_iff_getElem.1 hd
  exact ⟨k,hk,hK.hit hk (by rw [e]),by rw [e]⟩
 ·rintro ⟨k,hk,e1,e2⟩
  rcases kFi_cases Du.id K d.id with ⟨e,_⟩ | ⟨k',hk',e,e3,_⟩
  ·rw [e] at e1;omega
  ·obtain rfl:k=k':=by rw [e] at e1;omega
   rw [←du_ext e2 e3];exact List.getElem_mem hk
theorem not_mem_kFi {K:List Du} (hK:Asc Du.id K) {d:Du} (h:kFi Du.id K d.id<0):¬d∈K:=fun hd=>by
 obtain ⟨k,_,e,_⟩:=(mem_kFi hK d).1 hd
 omega
/-! ### What the functions of a table make of its heap -/
theorem tb_push {K h:List Du} (hp:h.Perm K) (d:Du):(hpu h d).Perm (kIns Du.id K d):=(puF_perm h d).trans ((hp.cons d).trans (kIns_perm K d).symm)
theorem erase_perm {l:List Du} {i:Nat} (hi:i<l.length):l.Perm (l[i]::l.eraseIdx i):=by
 have h:=set_perm l[i] l i hi
 rwa [List.set_getElem_self] at h
theorem tb_cut {K h:List Du} (hp:h.Perm K) {i k:Nat} (hi:i<h.length) (hk:k<K.length) (e:ge h i=K[k]):(cuF h i).Perm (K.eraseIdx k):=by
 refine (cuF_perm hi).trans (List.Perm.cons_inv (a:=K[k]) ?_)
 have h1:=erase_perm hi
 rw [ge_get hi,e] at h1
 exact h1.symm.trans (hp.trans (erase_perm hk))
theorem tb_at {K h:List Du} (hp:h.Perm K) {k:Nat} (hk:k<K.length) (hn:(h.map Du.id).Nodup):∃ i,i<h.length∧ge h i=K[k]∧ixD h K[k].id=i:=by
 obtain ⟨i,hi,e⟩:=List.mem_iff_getElem.1 (hp.mem_iff.2 (List.getElem_mem hk))
 rw [ge_get hi] at e
 refine ⟨i,hi,e,ixD_hit hi (by rw [e]) fun j hj e'=>?_⟩
 rw [←e] at e'
 have:=(List.pairwise_map.1 hn)
 have h2:=List.pairwise_iff_getElem.1 this j i (by omega) hi hj
 rw [ge_get (by omega),ge_get hi] at h2
 exact h2 e'
theorem tb_no {K h:List Du} (hp:h.Perm K) {x:Int} (hx:kFi Du.id K x<0):ixD h x = -1:=by
 refine ixD_neg fun h0=>?_
 obtain ⟨d,hd,e⟩:=(ixD_ge h x).1 h0
 have:=kFi_ge.2 ⟨d,hp.mem_iff.1 hd,e⟩
 omega
/-! ### Lapsed -/
def laF (h:List Du) (now:Int) (p:Int→Bool):List Int:=(unF h now).filter p
end Go.Proofs.YtncgbldcjfbknaaGreat
namespace Go.Proofs.YtncgbldcjfbknaaGreat
open Go.RowKit
set_option linter.unusedVariables false
structure Le where
 m:Msg
 dl:Int
def zL:Le:=⟨zM,0⟩
abbrev Le.v (x:Le):Value:=.agg #[.int .i64 x.m.id,.int .i64 x.m.rt,.int .i64 x.m.ep,.int .i64 x.m.ct,.int .i64 x.m.gn,.int .i64 x.m.st,.string x.m.bd,.int .i64 x.dl]
def Le.du (x:Le):Du:=⟨x.dl,x.m.id⟩
def Le.l (M:Le):List Value:=[.int .i64 M.m.id,.int .i64 M.m.rt,.int .i64 M.m.ep,.int .i64 M.m.ct,.int .i64 M.m.gn,.int .i64 M.m.st,.string M.m.bd,.int .i64 M.dl]
theorem Le.l_len (M:Le):M.l.length=8:=rfl
def ecs (l:List Le):List Value:=l.flatMap Le.l
theorem ecs_cons (M:Le) (l:List Le):ecs (M::l)=M.l++ecs l:=rfl
theorem ecs_app (l m:List Le):ecs (l++m)=ecs l++ecs m:=by simp [ecs]
theorem ecs_len (l:List Le):(ecs l).length=l.length*8:=by
 induction l with
 | nil=>rfl
 | cons M l ih=>rw [ecs_cons,List.length_append,ih,Le.l_len];simp;omega
theorem ecs_drop (l:List Le) (k:Nat):(ecs l).drop (k*8)=ecs (l.drop k):=by
 induction k generalizing l with
 | zero=>simp
 | succ k ih=>
  cases l with
  | nil=>simp [ecs]
  | cons M l=>
   rw [ecs_cons,List.drop_succ_cons,←ih,show (k+1)*8=M.l.length+k*8 by rw [Le.l_len];omega,List.drop_append,List.drop_eq_nil_of_le (by omega)]
   simp
theorem ecs_take (l:List Le) (k:Nat):(ecs l).take (k*8)=ecs (l.take k):=by
 induction k generalizing l with
 | zero=>simp [ecs]
 | succ k ih=>
  cases l with
  | nil=>simp [ecs]
  | cons M l=>
   rw [ecs_cons,List.take_succ_cons,ecs_cons,←ih,show (k+1)*8=M.l.length+k*8 by rw [Le.l_len];omega,List.take_append,List.take_of_length_le (by omega)]
   simp
theorem ecs_at (l:List Le) (k j:Nat) (hk:k<l.length) (hj:j<8):(ecs l)[k*8+j]? = l[k].l[j]?:=by
 have h:=ecs_drop l k
 have e:(ecs l)[k*8+j]? = ((ecs l).drop (k*8))[j]?:=by rw [List.getElem?_drop]
 rw [e,h,List.drop_eq_getElem_cons hk,ecs_cons,List.getElem?_append_left (by rw [Le.l_len];exact hj)]
theorem Le.l_one (M:Le):∀ u∈M.l,u.oneCell' = true:=by
 intro u hu
 simp only [Le.l,List.mem_cons,List.not_mem_nil,or_false] at hu
 rcases hu with rfl | rfl | rfl | rfl | rfl | rfl | rfl | rfl <;> rfl
theorem ecs_one (l:List Le):∀ u∈ecs l,u.oneCell' = true:=by
 intro u hu
 obtain ⟨M,_,h⟩:=List.mem_flatMap.1 hu
 simp only [Le.l,List.mem_cons,List.not_mem_nil,or_false] at h
 rcases h with rfl | rfl | rfl | rfl | rfl | rfl | rfl | rfl <;> rfl
def El (w:World) (B:Nat) (v:Value) (l:List Le):Prop:=∃ A c,v=.slice A l.length c∧l.length≤c∧c≤maxLen∧Rd w B 8 A l.length (ecs l)
abbrev C8 (W:World) (b m:Nat) (M:Le):Prop:=W.cell? ⟨b,m,none⟩=some (.int .i64 M.m.id)∧W.cell? ⟨b,m+1,none⟩=some (.int .i64 M.m.rt)∧W.cell? ⟨b,m+2,none⟩=some (.int .i64 M.m.ep)∧W.cell? ⟨b,m+3,none⟩=some (.int .i64 M.m.ct)∧W.cell? ⟨b,m+4,none⟩=some (.int .i64 M.m.gn)∧W.cell? ⟨b,m+5,none⟩=some (.int .i64 M.m.st)∧W.cell? ⟨b,m+6,none⟩=some (.string M.m.bd)∧W.cell? ⟨b,m+7,none⟩=some (.int .i64 M.dl)
section
variable {w w' : World} {B B' : Nat} {v:Value} {l:List Le} {A:Option Addr} {n c:Nat}
theorem El.nil:El w B (.slice none 0 0) []:=⟨none,0,rfl,Nat.le_refl _,Nat.zero_le _,Rd.nil none⟩
theorem El.keep (h:El w B v l) (hk:∀ p:Addr,p.block<B→w'.cell? p=w.cell? p):El w' B v l:=by
 obtain ⟨A,c,e,hl,hm,h⟩:=h;exact ⟨A,c,e,hl,hm,h.keep hk⟩
theorem El.more (h:El w B v l) (hB:B≤B'):El w B' v l:=by
 obtain ⟨A,c,e,hl,hm,h⟩:=h;exact ⟨A,c,e,hl,hm,h.more hB⟩
theorem El.below (h:El w B v l) (hb:Below B w w'):El w' B v l:=h.keep fun _ hp=>hb.cell hp
theorem El.drewN (h:El w B v l) (k:Nat):El (w.drewN k) B v l:=h
theorem El.alloc (h:El w B v l) (hB:B≤w.heap.size) (o:Obj):El (w.alloc o) B v l:=h.keep fun p hp=>World.cell?_alloc_lt w o p (by omega)
theorem El.len (h:El w B (.slice A n c) l):n=l.length∧n≤c∧c≤maxLen:=by
 obtain ⟨A',c',e,hl,hm,h⟩:=h
 injection e with e1 e2 e3
 subst e2;subst e3
 exact ⟨rfl,hl,hm⟩
theorem El.rd (h:El w B (.slice A n c) l):Rd w B 8 A n (ecs l):=by
 obtain ⟨A',c',e,hl,hm,h⟩:=h
 injection e with e1 e2 e3
 subst e1;subst e2
 exact h
theorem El.of_own {base:Nat} {e:TypeId} {n:Nat} (h:w.ownsRow base e 8 v n (ecs l)):El w w.heap.size v l:=by
 have hl:n=l.length:=by have:=h.1;rw [ecs_len] at this;omega
 subst hl
 rcases h.2 with ⟨hv,h0⟩ | ⟨g,cap,cur,hv,_,_,hl,hm,_⟩
 ·subst hv;exact ⟨none,0,by rw [h0],by omega,Nat.zero_le _,by rw [show l=[] from List.length_eq_zero_iff.1 h0];exact Rd.nil _⟩
 ·subst hv;exact ⟨_,cap,rfl,hl,hm,Rd.of_own h⟩
theorem El.at_ {k:Nat} (h:El w B (.slice A n c) l) (hk:k<l.length):∃ b o,A=some ⟨b,o,none⟩∧b<B∧(w.cell? ⟨b,o+k*8,none⟩=some (.int .i64 l[k].m.id)∧w.cell? ⟨b,o+k*8+1,none⟩=some (.int .i64 l[k].m.rt)∧w.cell? ⟨b,o+k*8+2,none⟩=some (.int .i64 l[k].m.ep)∧w.cell? ⟨b,o+k*8+3,none⟩=some (.int .i64 l[k].m.ct)∧w.cell? ⟨b,o+k*8+4,none⟩=some (.int .i64 l[k].m.gn)∧w.cell? ⟨b,o+k*8+5,none⟩=some (.int .i64 l[k].m.st)∧w.cell? ⟨b,o+k*8+6,none⟩=some (.string l[k].m.bd)∧w.cell? ⟨b,o+k*8+7,none⟩=some (.int .i64 l[k].dl)):=by
 have hn:=h.len.1
 obtain ⟨b,o,e,hb,hc⟩:=h.rd.2 (by omega)
 have g:∀ j u,j<8→l[k].l[j]? = some u→w.cell? ⟨b,o+k*8+j,none⟩=some u:=fun j u hj hu=>by
  rw [Nat.add_assoc];exact hc _ u (by rw [ecs_at l k j hk hj];exact hu)
 exact ⟨b,o,e,hb,g 0 _ (by omega) rfl,g 1 _ (by omega) rfl,g 2 _ (by omega) rfl,g 3 _ (by omega) rfl,g 4 _ (by omega) rfl,g 5 _ (by omega) rfl,g 6 _ (by omega) rfl,g 7 _ (by omega) rfl⟩
end
def ERow (W:World) (q n:Nat) (f:Nat→Le):Prop:=q<W.heap.size∧(∀ k,k<n→∀ j,j<8→W.cell? ⟨q,k*8+j,none⟩=(f k).l[j]?)∧∀ o,W.frozen? ⟨q,o,none⟩=false
section
variable {W W' : World} {q n:Nat} {f g:Nat→Le}
theorem ERow.c8 (h:ERow W q n f) {k:Nat} (hk:k<n):C8 W q (k*8) (f k):=by
 have g:=h.2.1 k hk
 exact ⟨g 0 (by omega),g 1 (by omega),g 2 (by omega),g 3 (by omega),g 4 (by omega),g 5 (by omega),g 6 (by omega),g 7 (by omega)⟩
theorem ERow.el (h:ERow W q n f) (x cap:Nat) (hx:x≤n) (hc:x≤cap) (hm:cap≤maxLen):El W W.heap.size (.slice (some ⟨q,0,none⟩) x cap) ((List.range x).map f):=by
 have hl:((List.range x).map f).length=x:=by simp
 refine ⟨_,cap,by rw [hl],by rw [hl];exact hc,hm,by rw [ecs_len,hl],fun _=>⟨q,0,rfl,h.1,fun i u hu=>?_⟩⟩
 have hi:i<x*8:=by have:=(List.getElem?_eq_some_iff.1 hu).1;rw [ecs_len,hl] at this;exact this
 have e:i=i / 8*8+i % 8:=by omega
 have hlt:i / 8<x:=by omega
 rw [e] at hu ⊢
 rw [ecs_at _ _ _ (by rw [hl];exact hlt) (by omega)] at hu
 rw [Nat.zero_add,h.2.1 _ (by omega) _ (by omega),←hu]
 simp
end
theorem El.off {W:World} {B lo n c:Nat} {A:Option Addr} {l:List Le} (h:El W B (.slice A n c) l) (hA:Nw lo A) {p:Addr} (hp:p.block<lo) (v:Value):El (W.setCell p v) B (.slice A n c) l:=by
 obtain ⟨A',c',e,hl,hm,hr⟩:=h
 injection e with e1 e2 e3
 subst e1;subst e3
 refine ⟨A,c,by rw [e2],hl,hm,hr.1,fun h0=>?_⟩
 obtain ⟨b,o,e,hb,hc⟩:=hr.2 h0
 have hlo:=hA _ e
 exact ⟨b,o,e,hb,fun j u hu=>(World.cell?_setCell_other W _ _ v (fun e'=>by have e2:=congrArg Addr.block e';simp at e2 hlo;omega)).trans (hc j u hu)⟩
end Go.Proofs.YtncgbldcjfbknaaGreat
/- Plain: tables of leases: Validate's answer, what Grant, Release and Extend return, and that a table stays valid. -/
namespace Go.Proofs.YtncgbldcjfbknaaGreat
set_option linter.unusedVariables false
def Le.id (x:Le):Int:=x.m.id
def lg (l:List Le) (i:Nat):Le:=l.getD i zL
theorem lg_get {l:List Le} {i:Nat} (hi:i<l.length):l[i]=lg l i:=by
 unfold lg;rw [List.getD_eq_getElem?_getD,List.getElem?_eq_getElem hi];rfl
def leC (l:List Le) (i:Nat):Int:=
 if vf (lg l i).m≠0 then vf (lg l i).m else if (lg l i).m.gn=0 then 7 else if (lg l i).dl<0∨1073741824<(lg l i).dl then 1 else if 0<i∧(lg l i).id≤(lg l (i - 1)).id then 11 else 0
def leS (l:List Le) (i:Nat):Int:=if h:i<l.length then (if leC l i≠0 then leC l i else leS l (i+1)) else 0
termination_by l.length - i
theorem leS_end {l:List Le} {i:Nat} (h:¬i<l.length):leS l i=0:=by unfold leS;rw [dif_neg h]
theorem leS_bad {l:List Le} {i:Nat} (h:i<l.length) (hc:leC l i≠0):leS l i=leC l i:=by unfold leS;rw [dif_pos h,if_pos hc]
theorem leS_good {l:List Le} {i:Nat} (h:i<l.length) (hc:leC l i=0):leS l i=leS l (i+1):=by rw [leS,dif_pos h,if_neg (by simpa using hc)]
theorem leS_zero {l:List Le}:∀ n i,n=l.length - i→(leS l i=0↔∀ k,i≤k→k<l.length→leC l k=0)
 | 0,i,hn=>by
  rw [leS_end (by omega)]
  exact ⟨fun _ k h1 h2=>absurd h2 (by omega),fun _=>rfl⟩
 | n+1,i,hn=>by
  have hi:i<l.length:=by omega
  by_cases hc:leC l i=0
  ·rw [leS_good hi hc,leS_zero n (i+1) (by omega)]
   refine ⟨fun h k h1 h2=>?_,fun h k h1 h2=>h k (by omega) h2⟩
   rcases Nat.eq_or_lt_of_le h1 with e | e
   ·subst e;exact hc
   ·exact h k e h2
  ·rw [leS_bad hi hc]
   exact ⟨fun h=>absurd h hc,fun h=>absurd (h i (Nat.le_refl _) hi) hc⟩
theorem leC_zero {l:List Le} {i:Nat}:leC l i=0↔vf (lg l i).m=0∧(lg l i).m.gn≠0∧0≤(lg l i).dl∧(lg l i).dl≤1073741824∧(0<i→(lg l (i - 1)).id<(lg l i).id):=by
 unfold leC
 split
 ·rename_i h;exact ⟨fun e=>absurd e h,fun e=>absurd e.1 h⟩
 ·rename_i h
  have h:vf (lg l i).m=0:=Decidable.not_not.1 h
  split
  ·rename_i h2;exact ⟨fun e=>by omega,fun e=>absurd h2 e.2.1⟩
  ·split
   ·exact ⟨fun e=>by omega,fun e=>by omega⟩
   ·split
    ·exact ⟨fun e=>by omega,fun e=>by omega⟩
    ·exact ⟨fun _=>⟨h,by omega,by omega,by omega,by omega⟩,fun _=>rfl⟩
def leOk (x:Le):Prop:=vf x.m=0∧x.m.gn≠0∧0≤x.dl∧x.dl≤1073741824
theorem leS_iff (l:List Le):leS l 0=0↔(∀ x∈l,leOk x)∧Asc Le.id l:=by
 rw [leS_zero _ 0 rfl]
 constructor
 ·intro h
  refine ⟨fun x hx=>?_,asc_iff.2 fun j hj=>?_⟩
  ·obtain ⟨i,hi,e⟩:=List.mem_iff_getElem.1 hx
   obtain ⟨h1,h2,h3,h4,_⟩:=leC_zero.1 (h i (Nat.zero_le _) hi)
   rw [←lg_get hi,e] at h1 h2 h3 h4
   exact ⟨h1,h2,h3,h4⟩
  ·have h5:=(leC_zero.1 (h (j+1) (Nat.zero_le _) hj)).2.2.2.2 (by omega)
   rw [Nat.add_sub_cancel,←lg_get hj,←lg_get (by omega)] at h5
   exact h5
 ·rintro ⟨h1,h2⟩ k _ hk
  obtain ⟨g1,g2,g3,g4⟩:=h1 _ (List.getElem_mem hk)
  refine leC_zero.2 ?_
  rw [←lg_get hk]
  refine ⟨g1,g2,g3,g4,fun h0=>?_⟩
  rw [←lg_get (by omega:k - 1<l.length)]
  exact h2.lt (by omega) hk
noncomputable def tbV (l:List Le) (h:List Du):Int:=if 12<l.length then 2 else if leS l 0≠0 then leS l 0 else if vaF h≠0 then vaF h else if ofT (l.map Le.du) h=false then 7 else 0
structure TbOk (l:List Le) (h:List Du):Prop where
 len:l.length≤12
 ok:∀ x∈l,leOk x
 asc:Asc Le.id l
 va:vaF h=0
 perm:h.Perm (l.map Le.du)
theorem vaF_ids {h:List Du} (e:vaF h=0):(h.map Du.id).Nodup:=(dupD_iff h).1 (vaF_zero e).2.2.1
theorem tbV_iff (l:List Le) (h:List Du):tbV l h=0↔TbOk l h:=by
 unfold tbV
 constructor
 ·intro e
  by_cases h1:12<l.length
  ·rw [if_pos h1] at e;exact absurd e (by decide)
  rw [if_neg h1] at e
  by_cases h2:leS l 0=0
  ·rw [if_neg (by simpa using h2)] at e
   by_cases h3:vaF h=0
   ·rw [if_neg (by simpa using h3)] at e
    cases h4:ofT (l.map Le.du) h with
    | false=>rw [if_pos h4] at e;exact absurd e (by decide)
    | true=>exact ⟨by omega,((leS_iff l).1 h2).1,((leS_iff l).1 h2).2,h3,(ofT_perm (vaF_ids h3)).1 h4⟩
   ·rw [if_pos h3] at e;exact absurd e h3
  ·rw [if_pos h2] at e;exact absurd e h2
 ·intro t
  rw [if_neg (by have:=t.len;omega),if_neg (by simpa using (leS_iff l).2 ⟨t.ok,t.asc⟩),if_neg (by simpa using t.va),if_neg (by rw [(ofT_perm (vaF_ids t.va)).2 t.perm];simp)]
theorem TbOk.hlen {l:List Le} {h:List Du} (t:TbOk l h):h.length=l.length:=by rw [t.perm.length_eq,List.length_map]
theorem TbOk.nil:TbOk [] []:=⟨Nat.zero_le _,fun x hx=>(by cases hx),Asc.nil,vaF_ok (Nat.zero_le _) (fun j hj=>absurd hj (Nat.not_lt_zero _)) (fun ⟨i,j,_,hj,_⟩=>absurd hj (Nat.not_lt_zero _)) (fun j h0 hj=>absurd hj (Nat.not_lt_zero _)),List.Perm.refl _⟩
theorem kFi_du (l:List Le) (x:Int):kFi Du.id (l.map Le.du) x=kFi Le.id l x:=kFi_map Le.du l x
theorem TbOk.no {l:List Le} {h:List Du} (t:TbOk l h) {x:Int} (hx:kFi Le.id l x<0):ixD h x = -1:=tb_no t.perm (by rw [kFi_du];exact hx)
theorem TbOk.at_ {l:List Le} {h:List Du} (t:TbOk l h) {k:Nat} (hk:k<l.length):∃ i,i<h.length∧ge h i=l[k].du∧ixD h l[k].id=i:=by
 obtain ⟨i,hi,e1,e2⟩:=tb_at t.perm (k:=k) (by rw [List.length_map];exact hk) (vaF_ids t.va)
 rw [List.getElem_map] at e1 e2
 exact ⟨i,hi,e1,e2⟩
theorem map_erase {α β:Type} (f:α→β):∀ (l:List α) (k:Nat),(l.map f).eraseIdx k=(l.eraseIdx k).map f
 | [],_=>rfl
 | a::l,0=>rfl
 | a::l,k+1=>by simp only [List.map_cons,List.eraseIdx_cons_succ,map_erase f l k]
noncomputable def grE (l:List Le) (h:List Du) (x:Le):Int:=
 if tbV l h≠0 then tbV l h else if vf x.m≠0 then vf x.m else if x.m.gn=0 then 7 else if x.dl<0∨1073741824<x.dl then 1 else if l.length=12 then 3 else if 0≤kFi Le.id l x.id then 10 else 0
theorem grE_zero {l:List Le} {h:List Du} {x:Le} (e:grE l h x=0):TbOk l h∧leOk x∧l.length<12∧kFi Le.id l x.id<0:=by
 unfold grE at e
 by_cases h1:tbV l h=0
 ·rw [if_neg (by simpa using h1)] at e
  have t:=(tbV_iff l h).1 h1
  by_cases h2:vf x.m=0
  ·rw [if_neg (by simpa using h2)] at e
   by_cases h3:x.m.gn=0
   ·rw [if_pos h3] at e;exact absurd e (by decide)
   rw [if_neg h3] at e
   by_cases h4:x.dl<0∨1073741824<x.dl
   ·rw [if_pos h4] at e;exact absurd e (by decide)
   rw [if_neg h4] at e
   by_cases h5:l.length=12
   ·rw [if_pos h5] at e;exact absurd e (by decide)
   rw [if_neg h5] at e
   by_cases h6:0≤kFi Le.id l x.id
   ·rw [if_pos h6] at e;exact absurd e (by decide)
   have:=t.len
   exact ⟨t,⟨h2,h3,by omega,by omega⟩,by omega,by omega⟩
  ·rw [if_pos h2] at e;exact absurd e h2
 ·rw [if_pos h1] at e;exact absurd e h1
theorem vf_hv {M:Msg} (h:vf M=0):hv M=true:=by
 cases e:hv M with
 | true=>rfl
 | false=>unfold vf at h;rw [e] at h;simp at h
theorem vf_id {M:Msg} (h:vf M=0):1≤M.id∧M.id≤1073741824:=by
 have h1:=vf_hv h
 unfold hv at h1
 exact wi_of (Bool.and_eq_true_iff.1 h1).1
theorem leOk.snd {x:Le} (h:leOk x):snd x.du=true:=decide_eq_true ⟨h.2.2.1,h.2.2.2,(vf_id h.1).1,(vf_id h.1).2⟩
theorem kFi_no {l:List Le} {x:Int} (h:kFi Le.id l x<0):∀ b∈l,b.id≠x:=fun b hb e=>by
 have:=kFi_ge.2 ⟨b,hb,e⟩
 omega
theorem TbOk.push {l:List Le} {h:List Du} (t:TbOk l h) {x:Le} (hx:snd x.du=true) (hl:l.length<12) (hf:kFi Le.id l x.id<0):hpuE h x.du=0:=by
 unfold hpuE
 rw [if_neg (by simpa using t.va),if_neg (by simp [hx]),if_neg (by have:=t.hlen;omega),if_neg (by rw [show x.du.id=x.id from rfl,t.no hf];decide)]
theorem TbOk.grant {l:List Le} {h:List Du} (t:TbOk l h) {x:Le} (ok:leOk x) (hx:snd x.du=true) (hl:l.length<12) (hf:kFi Le.id l x.id<0):TbOk (kIns Le.id l x) (hpu h x.du):=by
 obtain ⟨e1,e2,e3,e4⟩:=hpuE_zero (t.push hx hl hf)
 refine ⟨by rw [kIns_len];omega,fun y hy=>?_,t.asc.ins (kFi_no hf),vaF_push e1 e2 e3 e4,?_⟩
 ·rcases List.mem_cons.1 ((kIns_perm l x).mem_iff.1 hy) with e | hy
  ·rw [e];exact ok
  ·exact t.ok y hy
 ·have:=tb_push t.perm x.du
  rw [kIns_map Le.du l x] at this
  exact this
noncomputable def rlE (l:List Le) (h:List Du) (id:Int):Int:=if tbV l h≠0 then tbV l h else if kFi Le.id l id<0 then 4 else 0
noncomputable def exE (l:List Le) (h:List Du) (id dl:Int):Int:=if tbV l h≠0 then tbV l h else if kFi Le.id l id<0 then 4 else if dl<0∨1073741824<dl then 1 else 0
theorem rlE_zero {l:List Le} {h:List Du} {id:Int} (e:rlE l h id=0):TbOk l h∧∃ (k:Nat) (hk:k<l.length),kFi Le.id l id=k∧l[k].id=id:=by
 unfold rlE at e
 by_cases h1:tbV l h=0
 ·rw [if_neg (by simpa using h1)] at e
  by_cases h2:kFi Le.id l id<0
  ·rw [if_pos h2] at e;exact absurd e (by decide)
  ·rcases kFi_cases Le.id l id with ⟨e',_⟩ | ⟨k,hk,e',hi,_⟩
   ·rw [e'] at h2;omega
   ·exact ⟨(tbV_iff l h).1 h1,k,hk,e',hi⟩
 ·rw [if_pos h1] at e;exact absurd e h1
theorem exE_zero {l:List Le} {h:List Du} {id dl:Int} (e:exE l h id dl=0):rlE l h id=0∧0≤dl∧dl≤1073741824:=by
 unfold exE at e
 unfold rlE
 by_cases h1:tbV l h=0
 ·rw [if_neg (by simpa using h1)] at e ⊢
  by_cases h2:kFi Le.id l id<0
  ·rw [if_pos h2] at e;exact absurd e (by decide)
  ·rw [if_neg h2] at e ⊢
   by_cases h3:dl<0∨1073741824<dl
   ·rw [if_pos h3] at e;exact absurd e (by decide)
   ·exact ⟨rfl,by omega,by omega⟩
 ·rw [if_pos h1] at e;exact absurd e h1
theorem TbOk.rm {l:List Le} {h:List Du} (t:TbOk l h) {k:Nat} (hk:k<l.length):hrmE h l[k].id=0:=by
 obtain ⟨i,hi,_,e⟩:=t.at_ hk
 unfold hrmE
 rw [if_neg (by simpa using t.va),if_neg (by rw [e];omega)]
theorem TbOk.release {l:List Le} {h:List Du} (t:TbOk l h) {k:Nat} (hk:k<l.length):TbOk (l.eraseIdx k) (rmR h l[k].id):=by
 obtain ⟨i,hi,e1,e2⟩:=t.at_ hk
 unfold rmR
 rw [if_pos (t.rm hk),e2,Int.toNat_natCast]
 refine ⟨by rw [List.length_eraseIdx];have:=t.len;split <;> omega,fun y hy=>t.ok y ((List.eraseIdx_sublist l k).subset hy),t.asc.erase k,vaF_cut t.va hi,?_⟩
 have hk' : k<(l.map Le.du).length:=by rw [List.length_map];exact hk
 have:=tb_cut t.perm hi hk' (by rw [List.getElem_map];exact e1)
 rw [map_erase] at this
 exact this
theorem TbOk.again {l:List Le} {h:List Du} (t:TbOk l h) {k:Nat} (hk:k<l.length) {d:Du} (hd:snd d=true) (e:d.id=l[k].id):hpuE (rmR h l[k].id) d=0:=by
 have t2:=t.release hk
 have hf:kFi Le.id (l.eraseIdx k) d.id<0:=by
  rw [kFi_none fun b hb e'=>?_];decide
  obtain ⟨j,hj,hjk,e2⟩:=List.mem_eraseIdx_iff_getElem.1 hb
  subst e2
  exact hjk (t.asc.inj hj hk (e'.trans e))
 have hl:=t.len
 have hl2:=t2.hlen
 rw [List.length_eraseIdx,if_pos hk] at hl2
 unfold hpuE
 rw [if_neg (by simpa using t2.va),if_neg (by simp [hd]),if_neg (by omega),if_neg (by rw [t2.no hf];decide)]
end Go.Proofs.YtncgbldcjfbknaaGreat
namespace Go.Proofs.YtncgbldcjfbknaaGreat
open Go.RowKit
set_option linter.unusedVariables false
def puF (M:Msg) (e:Int):Bool:=decide (M.ep<e)
theorem purged_any (M:Msg) (k:Int) (w:World):Calls Tryz.prog 64 #[M.v,.int .i64 k] w fun e w'=>e=.returned (.bool (puF M k))∧Below w.heap.size w w':=by
 have HB:=Lh ((Below.refl w.heap.size w).alloc (Nat.le_refl _) (.cells M.cs 56))
 by_cases h:M.ep<k
 ·have HF:=Lh (show puF M k=true from decide_eq_true h)
  go_enter Tryz.func64,Tryz.ntmps64
  go_wp2
  go_ret
  exact ⟨by rw [HF.out];rfl,HB.out⟩
 ·have HF:=Lh (show puF M k=false from decide_eq_false h)
  go_enter Tryz.func64,Tryz.ntmps64
  go_wp2
  go_ret
  exact ⟨by rw [HF.out];rfl,HB.out⟩
end Go.Proofs.YtncgbldcjfbknaaGreat
/- Plain: tables of leases: what Find and Lapsed return; the deadline of an ID while leases come, go and are extended. -/
namespace Go.Proofs.YtncgbldcjfbknaaGreat
set_option linter.unusedVariables false
noncomputable def fnO (l:List Le) (h:List Du) (id:Int):Bool:=decide (tbV l h=0∧0≤kFi Le.id l id)
noncomputable def fnX (l:List Le) (h:List Du) (id:Int):Le:=if fnO l h id=true then lg l (kFi Le.id l id).toNat else zL
theorem TbOk.fn {l:List Le} {h:List Du} (t:TbOk l h) {k:Nat} (hk:k<l.length):fnO l h l[k].id=true∧fnX l h l[k].id=l[k]:=by
 have e:=t.asc.hit hk rfl
 have h1:fnO l h l[k].id=true:=decide_eq_true ⟨(tbV_iff l h).2 t,by rw [e];omega⟩
 refine ⟨h1,?_⟩
 unfold fnX
 rw [if_pos h1,e,Int.toNat_natCast,lg_get hk]
noncomputable def laV (l:List Le) (h:List Du) (now ep:Int):List Int:=if tbV l h=0 then laF h now (fun id=>!puF (fnX l h id).m ep) else []
theorem TbOk.lav {l:List Le} {h:List Du} (t:TbOk l h) (now ep:Int):laV l h now ep=laF h now (fun id=>!puF (fnX l h id).m ep):=if_pos ((tbV_iff l h).2 t)
end Go.Proofs.YtncgbldcjfbknaaGreat
