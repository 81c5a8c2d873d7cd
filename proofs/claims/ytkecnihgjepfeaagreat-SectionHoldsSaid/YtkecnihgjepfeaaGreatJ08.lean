/- What is proved here: parts of the proof: Twd Pld Rtf Dud Dcm Dbf. -/
import Derived.Test.YtkecnihgjepfeaaGreatJ07
/- Plain: tables of leases: what Find and Lapsed return; the deadline of an ID while leases come, go and are extended. -/
namespace Go.Proofs.YtkecnihgjepfeaaGreat
set_option linter.unusedVariables false
set_option linter.unusedSimpArgs false
set_option maxHeartbeats 8000000
set_option maxRecDepth 20000
noncomputable def fnO (l:List Le) (h:List Du) (id:Int):Bool:=decide (tbV l h=0/\0<=kFi Le.id l id)
noncomputable def fnX (l:List Le) (h:List Du) (id:Int):Le:=if fnO l h id=true then lg l (kFi Le.id l id).toNat else zL
end Go.Proofs.YtkecnihgjepfeaaGreat
/- Plain: what the program's own ways of a table give: the first error of a lease, what a heap consists of, places in ascending lists. -/
namespace Go.Proofs.YtkecnihgjepfeaaGreat
set_option linter.unusedVariables false
set_option linter.unusedSimpArgs false
set_option maxHeartbeats 8000000
set_option maxRecDepth 20000
def leE (X:Le):Int:=if vf X.m≠0 then vf X.m else if X.m.gn=0 then 7 else if X.dl<0\/1073741824<X.dl then 1 else 0
theorem leE_vf {X:Le} (h:vf X.m≠0):leE X=vf X.m:=if_pos h
theorem leE_7 {X:Le} (h:vf X.m=0) (h1:X.m.gn=0):leE X=7:=by unfold leE;rw [if_neg (by simpa using h),if_pos h1]
theorem leE_1 {X:Le} (h:vf X.m=0) (h1:X.m.gn≠0) (h2:X.dl<0\/1073741824<X.dl):leE X=1:=by unfold leE;rw [if_neg (by simpa using h),if_neg h1,if_pos h2]
theorem leE_0 {X:Le} (h:vf X.m=0) (h1:X.m.gn≠0) (h2:¬(X.dl<0\/1073741824<X.dl)):leE X=0:=by unfold leE;rw [if_neg (by simpa using h),if_neg h1,if_neg h2]
theorem leE_zero {X:Le}:leE X=0↔leOk X:=by
 unfold leE leOk
 split
 ·rename_i h;exact ⟨fun e=>absurd e h,fun e=>absurd e.1 h⟩
 ·rename_i h
  have h:vf X.m=0:=Decidable.not_not.1 h
  split
  ·rename_i h2;exact ⟨fun e=>by omega,fun e=>absurd h2 e.2.1⟩
  ·split
   ·exact ⟨fun e=>by omega,fun e=>by omega⟩
   ·exact ⟨fun _=>⟨h,by omega,by omega,by omega⟩,fun _=>rfl⟩
def bfI (l:List Le) (k:Nat):Int:=if k=0 then 0 else (lg l (k - 1)).id
theorem bfI_succ (l:List Le) (k:Nat):bfI l (k+1)=(lg l k).id:=by unfold bfI;rw [if_neg (by omega),Nat.add_sub_cancel]
theorem leC_err {l:List Le} {k:Nat} (h:leE (lg l k)≠0):leC l k=leE (lg l k):=by
 unfold leC
 unfold leE at h ⊢
 split
 ·rfl
 ·split
  ·rfl
  ·split
   ·rfl
   ·rename_i h1 h2 h3;exact absurd (by rw [if_neg h1,if_neg h2,if_neg h3]) h
theorem leC_ord {l:List Le} {k:Nat} (h:leE (lg l k)=0):leC l k=if (lg l k).id<=bfI l k then 11 else 0:=by
 obtain ⟨h1,h2,h3,h4⟩:=leE_zero.1 h
 have:=(vf_id h1).1
 unfold leC
 rw [if_neg (by simpa using h1),if_neg h2,if_neg (by omega)]
 unfold bfI
 by_cases h0:k=0
 ·rw [if_neg (by omega),if_pos h0,if_neg (by unfold Le.id;omega)]
 ·rw [if_neg h0]
  by_cases h5:(lg l k).id<=(lg l (k - 1)).id
  ·rw [if_pos ⟨by omega,h5⟩,if_pos h5]
  ·rw [if_neg (fun h=>h5 h.2),if_neg h5]
theorem leS_to {l:List Le} {i:Nat} (hi:i<l.length) (hc:leC l i≠0):∀ d j,j+d=i->(∀ k,j<=k->k<i->leC l k=0)->leS l j=leC l i
 | 0,j,e,_=>by
  obtain rfl:j=i:=by omega
  exact leS_bad hi hc
 | d+1,j,e,h=>by
  rw [leS_good (by omega) (h j (nLR _) (by omega))]
  exact leS_to hi hc d (j+1) (by omega) fun k h1 h2=>h k (by omega) h2
theorem leS_at {l:List Le} {i:Nat} (hi:i<l.length) (hc:leC l i≠0) (hn:∀ k,k<i->leC l k=0):leS l 0=leC l i:=leS_to hi hc i 0 (by omega) fun k _ hk=>hn k hk
theorem leS_ok {l:List Le} (hn:∀ k,k<l.length->leC l k=0):leS l 0=0:=(leS_zero _ 0 rfl).2 fun k _ hk=>hn k hk
theorem lg_map {l:List Le} {k:Nat} (hk:k<l.length):(l.map Le.du)[k]'(by rw [List.length_map];exact hk)=(lg l k).du:=by rw [List.getElem_map,lg_get hk]
noncomputable def cnF (h:List Du) (l:List Le):Bool:=decide ((∀ k,k<l.length->(lg l k).du∈h)/\h.length=l.length)
theorem cnF_no {h:List Du} {l:List Le} {k:Nat} (hk:k<l.length) (hn:¬(lg l k).du∈h):cnF h l=false:=decide_eq_false fun e=>hn (e.1 k hk)
theorem cnF_len {h:List Du} {l:List Le} (hn:∀ k,k<l.length->(lg l k).du∈h):cnF h l=decide (h.length=l.length):=by
 unfold cnF
 rw [Bool.eq_iff_iff,decide_eq_true_iff,decide_eq_true_iff]
 exact ⟨fun e=>e.2,fun e=>⟨hn,e⟩⟩
theorem cnF_ofT {h:List Du} {l:List Le} (h1:leS l 0=0) (h2:vaF h=0):cnF h l=ofT (l.map Le.du) h:=by
 have ha:Asc Du.id (l.map Le.du):=List.pairwise_map.2 ((leS_iff l).1 h1).2
 rw [Bool.eq_iff_iff]
 refine Iff.trans ?_ (ofT_perm (vaF_ids h2)).symm
 unfold cnF
 rw [decide_eq_true_iff]
 constructor
 ·rintro ⟨e1,e2⟩
  refine (perm_of_sub (nodup_of_ids ha.nodup) (fun d hd=>?_) (by rw [List.length_map];omega)).symm
  obtain ⟨k,hk,e⟩:=List.mem_iff_getElem.1 hd
  rw [List.length_map] at hk
  rw [lg_map hk] at e
  rw [<-e]
  exact e1 k hk
 ·intro hp
  refine ⟨fun k hk=>?_,by rw [hp.length_eq,List.length_map]⟩
  rw [<-lg_map hk]
  exact hp.mem_iff.2 (List.getElem_mem _)
section
variable {α:Type} {key:α->Int}
end
end Go.Proofs.YtkecnihgjepfeaaGreat
namespace Go.Proofs.YtkecnihgjepfeaaGreat
open Go.RowKit
set_option linter.unusedVariables false
set_option linter.unusedSimpArgs false
set_option maxHeartbeats 8000000
set_option maxRecDepth 20000
abbrev tv (A:Option Addr) (n c:Nat) (A2:Option Addr) (n2 c2:Nat):Value:=.agg #[.slice A n c,.slice A2 n2 c2]
abbrev TB (W:World) (p:Nat) (A:Option Addr) (n c:Nat) (A2:Option Addr) (n2 c2:Nat):Prop:=W.cell? ⟨p,0,none⟩=some (.slice A n c)/\W.cell? ⟨p,1,none⟩=some (.slice A2 n2 c2)/\p<W.heap.size
theorem TB.start (w:World) (A:Option Addr) (n c:Nat) (A2:Option Addr) (n2 c2:Nat) (t:TypeId):TB (w.alloc (.cells #[.slice A n c,.slice A2 n2 c2] t)) w.heap.size A n c A2 n2 c2:=
 ⟨by simp [go_sem],by simp [go_sem],by simp⟩
theorem TB.below {B:Nat} {W W' : World} {p:Nat} {A:Option Addr} {n c:Nat} {A2:Option Addr} {n2 c2:Nat} (h:TB W p A n c A2 n2 c2) (hb:Below B W W') (hp:p<B):TB W' p A n c A2 n2 c2:=
 ⟨(hb.cell (p:=⟨p,0,none⟩) hp).trans h.1,(hb.cell (p:=⟨p,1,none⟩) hp).trans h.2.1,Nat.lt_of_lt_of_le h.2.2 hb.size⟩
def Du.l (d:Du):List Value:=[.int .i64 d.dl,.int .i64 d.id]
abbrev Du.v (d:Du):Value:=.agg #[.int .i64 d.dl,.int .i64 d.id]
theorem Du.l_len (d:Du):d.l.length=2:=rfl
def dcs (l:List Du):List Value:=l.flatMap Du.l
theorem dcs_cons (d:Du) (l:List Du):dcs (d::l)=d.l++dcs l:=rfl
theorem dcs_len (l:List Du):(dcs l).length=l.length*2:=by
 induction l with
 | nil=>rfl
 | cons d l ih=>rw [dcs_cons,List.length_append,ih,Du.l_len];simp;omega
theorem dcs_drop (l:List Du) (k:Nat):(dcs l).drop (k*2)=dcs (l.drop k):=by
 induction k generalizing l with
 | zero=>simp
 | succ k ih=>
  cases l with
  | nil=>simp [dcs]
  | cons d l=>
   rw [dcs_cons,List.drop_succ_cons,<-ih,show (k+1)*2=d.l.length+k*2 by rw [Du.l_len];omega,List.drop_append,List.drop_eq_nil_of_le (by omega)]
   simp
theorem dcs_take (l:List Du) (k:Nat):(dcs l).take (k*2)=dcs (l.take k):=by
 induction k generalizing l with
 | zero=>simp [dcs]
 | succ k ih=>
  cases l with
  | nil=>simp [dcs]
  | cons d l=>
   rw [dcs_cons,List.take_succ_cons,dcs_cons,<-ih,show (k+1)*2=d.l.length+k*2 by rw [Du.l_len];omega,List.take_append,List.take_of_length_le (by omega)]
   simp
theorem dcs_at (l:List Du) (k j:Nat) (hk:k<l.length) (hj:j<2):(dcs l)[k*2+j]? = l[k].l[j]?:=by
 have h:=dcs_drop l k
 have e:(dcs l)[k*2+j]? = ((dcs l).drop (k*2))[j]?:=by rw [List.getElem?_drop]
 rw [e,h,List.drop_eq_getElem_cons hk,dcs_cons,List.getElem?_append_left (by rw [Du.l_len];exact hj)]
theorem dcs_one (l:List Du):∀ u∈dcs l,u.oneCell' = true:=by
 intro u hu
 obtain ⟨M,_,h⟩:=List.mem_flatMap.1 hu
 simp only [Du.l,List.mem_cons,List.not_mem_nil,or_false] at h
 rcases h with rfl | rfl <;> rfl
def Dl (w:World) (B:Nat) (v:Value) (l:List Du):Prop:=∃ A c,v=.slice A l.length c/\l.length<=c/\c<=maxLen/\Rd w B 2 A l.length (dcs l)
section
variable {w w' : World} {B B' : Nat} {v:Value} {l:List Du} {A:Option Addr} {n c:Nat}
theorem Dl.nil:Dl w B (.slice none 0 0) []:=⟨none,0,rfl,nLR _,Nat.zero_le _,Rd.nil none⟩
theorem Dl.keep (h:Dl w B v l) (hk:∀ p:Addr,p.block<B->w'.cell? p=w.cell? p):Dl w' B v l:=by
 obtain ⟨A,c,e,hl,hm,h⟩:=h;exact ⟨A,c,e,hl,hm,h.keep hk⟩
theorem Dl.more (h:Dl w B v l) (hB:B<=B'):Dl w B' v l:=by
 obtain ⟨A,c,e,hl,hm,h⟩:=h;exact ⟨A,c,e,hl,hm,h.more hB⟩
theorem Dl.below (h:Dl w B v l) (hb:Below B w w'):Dl w' B v l:=h.keep fun _ hp=>hb.cell hp
theorem Dl.up (h:Dl w w.heap.size v l) (hb:Below w.heap.size w w'):Dl w' w'.heap.size v l:=(h.below hb).more hb.size
theorem Dl.drewN (h:Dl w B v l) (k:Nat):Dl (w.drewN k) B v l:=h
theorem Dl.drew (h:Dl w B v l):Dl w.drew B v l:=h
theorem Dl.alloc (h:Dl w B v l) (hB:B<=w.heap.size) (o:Obj):Dl (w.alloc o) B v l:=h.keep fun p hp=>World.cell?_alloc_lt w o p (by omega)
theorem Dl.len (h:Dl w B (.slice A n c) l):n=l.length/\n<=c/\c<=maxLen:=by
 obtain ⟨A',c',e,hl,hm,h⟩:=h
 injection e with e1 e2 e3
 subst e2;subst e3
 exact ⟨rfl,hl,hm⟩
theorem Dl.rd (h:Dl w B (.slice A n c) l):Rd w B 2 A n (dcs l):=by
 obtain ⟨A',c',e,hl,hm,h⟩:=h
 injection e with e1 e2 e3
 subst e1;subst e2
 exact h
theorem Dl.of_own {base:Nat} {e:TypeId} {n:Nat} (h:w.ownsRow base e 2 v n (dcs l)):Dl w w.heap.size v l:=by
 have hl:n=l.length:=by have:=h.1;rw [dcs_len] at this;omega
 subst hl
 rcases h.2 with ⟨hv,h0⟩ | ⟨g,cap,cur,hv,_,_,hl,hm,_⟩
 ·subst hv;exact ⟨none,0,by rw [h0],by omega,Nat.zero_le _,by rw [show l=[] from List.length_eq_zero_iff.1 h0];exact Rd.nil _⟩
 ·subst hv;exact ⟨_,cap,rfl,hl,hm,Rd.of_own h⟩
theorem Dl.at_ {k:Nat} (h:Dl w B (.slice A n c) l) (hk:k<l.length):∃ b o,A=some ⟨b,o,none⟩/\b<B/\(w.cell? ⟨b,o+k*2,none⟩=some (.int .i64 l[k].dl)/\w.cell? ⟨b,o+k*2+1,none⟩=some (.int .i64 l[k].id)):=by
 have hn:=h.len.1
 obtain ⟨b,o,e,hb,hc⟩:=h.rd.2 (by omega)
 have g:∀ j u,j<2->l[k].l[j]? = some u->w.cell? ⟨b,o+k*2+j,none⟩=some u:=fun j u hj hu=>by
  rw [Nat.add_assoc];exact hc _ u (by rw [dcs_at l k j hk hj];exact hu)
 exact ⟨b,o,e,hb,g 0 _ (by omega) rfl,g 1 _ (by omega) rfl⟩
end
def DRow (W:World) (q n:Nat) (f:Nat->Du):Prop:=q<W.heap.size/\(∀ k,k<n->∀ j,j<2->W.cell? ⟨q,k*2+j,none⟩=(f k).l[j]?)/\∀ o,W.frozen? ⟨q,o,none⟩=false
section
variable {W W' : World} {q n:Nat} {f g:Nat->Du}
end
def wiD (n lo hi:Int):Bool:=decide (lo<=n/\n<=hi)
theorem wiD_true {n lo hi:Int} (h1:lo<=n) (h2:n<=hi):wiD n lo hi=true:=decide_eq_true ⟨h1,h2⟩
theorem wiD_low {n lo hi:Int} (h1:¬lo<=n):wiD n lo hi=false:=decide_eq_false (fun h=>h1 h.1)
theorem wiD_high {n lo hi:Int} (h1:¬n<=hi):wiD n lo hi=false:=decide_eq_false (fun h=>h1 h.2)
theorem dwithin_any (n lo hi:Int) (w:World):Calls Tryz.prog 205 #[.int .i64 n,.int .i64 lo,.int .i64 hi] w fun e w'=>e=.returned (.bool (wiD n lo hi))/\w=w':=by
 by_cases h1:lo<=n
 ·by_cases h2:n<=hi
  ·have H:=Lh (wiD_true h1 h2)
   go_enter Tryz.func205,Tryz.ntmps205
   go_wp2
   go_ret
   exact ⟨by rw [H.out];rfl,rfl⟩
  ·have H:=Lh (wiD_high (lo:=lo) h2)
   go_enter Tryz.func205,Tryz.ntmps205
   go_wp2
   go_ret
   exact ⟨by rw [H.out];rfl,rfl⟩
 ·have H:=Lh (wiD_low (hi:=hi) h1)
  go_enter Tryz.func205,Tryz.ntmps205
  go_wp2
  go_ret
  exact ⟨by rw [H.out];rfl,rfl⟩
theorem parent_any (i:Nat) (h1:i<=1000) (w:World):Calls Tryz.prog 208 #[.int .i64 (i:Int)] w fun e w'=>e=.returned (.int .i64 (((i - 1) / 2:Nat):Int))/\w=w':=by
 have H:=Lh (show (((i:Int) - 1).tdiv 2)=(((i - 1) / 2:Nat):Int) by
  rcases Nat.eq_zero_or_pos i with e | e
  ·subst e;rfl
  ·rw [Int.tdiv_eq_ediv_of_nonneg (by omega)];omega)
 have h0:(0:Int)<=(i:Int):=by omega
 have h2:(i:Int)<=1000:=by omega
 go_enter Tryz.func208,Tryz.ntmps208
 go_wp2
 go_ret
 exact ⟨by rw [<-H.out];rfl,rfl⟩
def ciF (x y:Int):Int:=if x<y then -1 else if y<x then 1 else 0
theorem nan_any (x:Int) (w:World):Calls Tryz.prog 215 #[.int .i64 x] w fun e w'=>e=.returned (.bool false)/\w=w':=by
 go_enter Tryz.func215,Tryz.ntmps215
 go_wp2
 go_ret
 exact ⟨by simp,rfl⟩
theorem cmpint_any (x y:Int) (w:World):Calls Tryz.prog 214 #[.int .i64 x,.int .i64 y] w fun e w'=>e=.returned (.int .i64 (ciF x y))/\w=w':=by
 have HX:=Lh (nan_any x)
 have HY:=Lh (nan_any y)
 by_cases h1:x<y
 ·have H:=Lh (show ciF x y = -1 from if_pos h1)
  go_enter Tryz.func214,Tryz.ntmps214
  go_wp2_with fail
  refine (HX.out _).mono ?_
  rintro e w1 ⟨rfl,rfl⟩
  go_wp2_with fail
  refine (HY.out _).mono ?_
  rintro e w1 ⟨rfl,rfl⟩
  go_wp2
  go_ret
  exact ⟨by rw [H.out];rfl,rfl⟩
 ·by_cases h2:y<x
  ·have H:=Lh (show ciF x y=1 by unfold ciF;rw [if_neg h1,if_pos h2])
   go_enter Tryz.func214,Tryz.ntmps214
   go_wp2_with fail
   refine (HX.out _).mono ?_
   rintro e w1 ⟨rfl,rfl⟩
   go_wp2_with fail
   refine (HY.out _).mono ?_
   rintro e w1 ⟨rfl,rfl⟩
   go_wp2
   go_ret
   exact ⟨by rw [H.out];rfl,rfl⟩
  ·have H:=Lh (show ciF x y=0 by unfold ciF;rw [if_neg h1,if_neg h2])
   go_enter Tryz.func214,Tryz.ntmps214
   go_wp2_with fail
   refine (HX.out _).mono ?_
   rintro e w1 ⟨rfl,rfl⟩
   go_wp2_with fail
   refine (HY.out _).mono ?_
   rintro e w1 ⟨rfl,rfl⟩
   go_wp2
   go_ret
   exact ⟨by rw [H.out];rfl,rfl⟩
def orF (x y:Int):Int:=if x=0 then y else x
theorem or_any (b c:Nat) (x y:Int) (w:World) (h0:w.cell? ⟨b,0,none⟩=some (.int .i64 x)) (h1:w.cell? ⟨b,1,none⟩=some (.int .i64 y)) :
  Calls Tryz.prog 213 #[.slice (some ⟨b,0,none⟩) 2 c] w fun e w'=>e=.returned (.int .i64 (orF x y))/\w=w':=by
 have HC:∀ k:Nat,k<2->∃ z:Int,w.cell? ⟨b,k,none⟩=some (.int .i64 z)/\z=if k=0 then x else y:=fun k hk=>by
  match k,hk with
  | 0,_=>exact ⟨x,h0,rfl⟩
  | 1,_=>exact ⟨y,h1,rfl⟩
 have HC:=Lh HC
 clear h0 h1
 go_enter Tryz.func213,Tryz.ntmps213
 go_wp2
 go_loop [8] (fun i=>∃ k:Nat,k<=2/\i=.int .i64 k/\(0<k->x=0)/\(1<k->y=0)) (fun i=>2 - (intOf i).toNat)
 case atStart=>exact ⟨0,by omega,rfl,by omega,by omega⟩
 case round=>
  obtain ⟨k,hk,rfl,hx,hy⟩:=hrel
  have HXY:=Lh (And.intro hx hy)
  clear hx hy
  by_cases hlt:k<2
  ·obtain ⟨z,hz,hzz⟩:=HC.out k hlt
   have HZ:=Lh hzz
   clear hzz
   by_cases he:z=0
   ·have hd:(z != 0)=false:=by simp [he]
    have HE:=Lh he
    clear he
    go_wp2
    go_round
    case rel=>
     refine ⟨k+1,by omega,by go_num,fun _=>?_,fun _=>?_⟩
     ·have h1:=HZ.out
      rw [HE.out] at h1
      by_cases e:k=0
      ·rw [if_pos e] at h1;exact h1.symm
      ·exact HXY.out.1 (by omega)
     ·have h1:=HZ.out
      rw [HE.out,if_neg (by omega)] at h1
      exact h1.symm
    case measure=>simp [intOf];omega
   ·have hd:(z != 0)=true:=bne_iff_ne.2 he
    have HR:=Lh (show orF x y=z by
     have h1:=HZ.out
     unfold orF
     by_cases e:k=0
     ·rw [if_pos e] at h1;rw [if_neg (by rw [<-h1];exact he)];exact h1.symm
     ·rw [if_neg e] at h1;rw [if_pos (HXY.out.1 (by omega))];exact h1.symm)
    clear he
    go_wp2
    go_ret
    exact ⟨by rw [HR.out];rfl,rfl⟩
  ·have HR:=Lh (show orF x y=0 by unfold orF;rw [if_pos (HXY.out.1 (by omega))];exact HXY.out.2 (by omega))
   go_wp2
   go_ret
   exact ⟨by rw [HR.out];rfl,rfl⟩
theorem cm_or (a b:Du):orF (ciF a.dl b.dl) (ciF a.id b.id)=cmF a b:=by
 unfold cmF
 by_cases h1:bef a b=true
 ·rw [if_pos h1]
  rw [bef_iff] at h1
  unfold orF ciF
  repeat' split
  all_goals omega
 ·rw [if_neg h1]
  by_cases h2:bef b a=true
  ·rw [if_pos h2]
   rw [bef_iff] at h1 h2
   unfold orF ciF
   repeat' split
   all_goals omega
  ·rw [if_neg h2]
   rw [bef_iff] at h1 h2
   unfold orF ciF
   repeat' split
   all_goals omega
abbrev D4 (W:World) (p q:Nat) (a b:Du):Prop:=W.cell? ⟨p,0,none⟩=some (.int .i64 a.dl)/\W.cell? ⟨p,1,none⟩=some (.int .i64 a.id)/\W.cell? ⟨q,0,none⟩=some (.int .i64 b.dl)/\W.cell? ⟨q,1,none⟩=some (.int .i64 b.id)
theorem D4.below {B:Nat} {W W' : World} {p q:Nat} {a b:Du} (h:D4 W p q a b) (hb:Below B W W') (hp:p<B) (hq:q<B):D4 W' p q a b:=
 ⟨(hb.cell (p:=⟨p,0,none⟩) hp).trans h.1,(hb.cell (p:=⟨p,1,none⟩) hp).trans h.2.1,(hb.cell (p:=⟨q,0,none⟩) hq).trans h.2.2.1,(hb.cell (p:=⟨q,1,none⟩) hq).trans h.2.2.2⟩
theorem D4.start (w:World) (a b:Du) (t:TypeId):D4 ((w.alloc (.cells #[.int .i64 a.dl,.int .i64 a.id] t)).alloc (.cells #[.int .i64 b.dl,.int .i64 b.id] t)) w.heap.size (w.heap.size+1) a b:=by
 refine ⟨?_,?_,?_,?_⟩
 ·rw [World.cell?_alloc_lt _ _ _ (by simp),World.cell?_alloc_new];rfl
 ·rw [World.cell?_alloc_lt _ _ _ (by simp),World.cell?_alloc_new];rfl
 ·have:=World.cell?_alloc_new (w.alloc (.cells #[.int .i64 a.dl,.int .i64 a.id] t)) #[.int .i64 b.dl,.int .i64 b.id] t 0
  rw [World.size_alloc] at this
  rw [this];rfl
 ·have:=World.cell?_alloc_new (w.alloc (.cells #[.int .i64 a.dl,.int .i64 a.id] t)) #[.int .i64 b.dl,.int .i64 b.id] t 1
  rw [World.size_alloc] at this
  rw [this];rfl
theorem compare_any (a b:Du) (w:World) :
  Calls Tryz.prog 212 #[a.v,b.v] w fun e w'=>e=.returned (.int .i64 (cmF a b))/\Below w.heap.size w w':=by
 have HD:=Lh (D4.start w a b 155)
 have HB:=Lh (((Below.refl w.heap.size w).alloc (nLR _) (.cells #[.int .i64 a.dl,.int .i64 a.id] 155)).alloc (by simp) (.cells #[.int .i64 b.dl,.int .i64 b.id] 155))
 have HC1:=Lh (fun w=>cmpint_any a.dl b.dl w)
 have HC2:=Lh (fun w=>cmpint_any a.id b.id w)
 have HO:=Lh (fun g c w=>or_any g c (ciF a.dl b.dl) (ciF a.id b.id) w)
 have HF:=Lh (cm_or a b)
 generalize ciF a.dl b.dl=x at*
 generalize ciF a.id b.id=y at*
 go_enter Tryz.func212,Tryz.ntmps212
 go_wp2
 obtain ⟨p,hp⟩:∃ p,p=w.heap.size:=⟨_,rfl⟩
 obtain ⟨q,hq⟩:∃ q,q=w.heap.size+1:=⟨_,rfl⟩
 have HPQ:=Lh (And.intro hp hq)
 rw [<-hq,<-hp] at HD ⊢
 clear hp hq
 obtain ⟨W0,hW0⟩:∃ W0,W0=((w.alloc (.cells #[.int .i64 a.dl,.int .i64 a.id] 155)).alloc (.cells #[.int .i64 b.dl,.int .i64 b.id] 155)):=⟨_,rfl⟩
 have HSZ:=Lh (show W0.heap.size=w.heap.size+2 by rw [hW0];simp)
 rw [<-hW0] at HD HB ⊢
 clear hW0
 have HS0:=Lh (show D4 W0.drew p q a b from HD.out)
 have HS1:=Lh (HD.out.below (W':=(W0.alloc (.cells #[.int .i64 x,.int .i64 y] 3)).drew) (B:=W0.heap.size) (((Below.refl W0.heap.size W0).alloc (by simp) _).drew) (by have:=HPQ.out;have:=HSZ.out;omega) (by have:=HPQ.out;have:=HSZ.out;omega))
 have HB1:=Lh (show Below w.heap.size w ((W0.alloc (.cells #[.int .i64 x,.int .i64 y] 3)).drew) from (HB.out.alloc HB.out.size _).drew)
 obtain ⟨c0,c1,c2,c3⟩:=HD.out
 go_region_held3 (fun W=>W.cell? ⟨p,0,none⟩=some (.int .i64 a.dl)/\W.cell? ⟨p,1,none⟩=some (.int .i64 a.id)/\W.cell? ⟨q,0,none⟩=some (.int .i64 b.dl)/\W.cell? ⟨q,1,none⟩=some (.int .i64 b.id))
  (first | with_reducible exact HS0.out | with_reducible exact HS1.out)
  (first
  | (go_at_call 214;(with_reducible refine (HC1.out _).mono ?_);rintro e w1 ⟨rfl,rfl⟩)
  | (go_at_call 214;(with_reducible refine (HC2.out _).mono ?_);rintro e w1 ⟨rfl,rfl⟩)
  | (go_at_call 213;(with_reducible refine (HO.out _ _ _ (by simp [go_sem]) (by simp [go_sem])).mono ?_);rintro e w1 ⟨rfl,rfl⟩))
 go_wp2
 go_ret
 exact ⟨by rw [<-HF.out];rfl,HB1.out⟩
theorem before_any (a b:Du) (w:World) :
  Calls Tryz.prog 207 #[a.v,b.v] w fun e w'=>e=.returned (.bool (bef a b))/\Below w.heap.size w w':=by
 have HB:=Lh (((Below.refl w.heap.size w).alloc (nLR _) (.cells #[.int .i64 a.dl,.int .i64 a.id] 155)).alloc (by simp) (.cells #[.int .i64 b.dl,.int .i64 b.id] 155))
 have HC:=Lh (fun w=>compare_any a b w)
 have HF:=Lh (show decide (cmF a b<0)=bef a b by rw [Bool.eq_iff_iff,decide_eq_true_iff];exact cmF_neg a b)
 generalize cmF a b=c at*
 go_enter Tryz.func207,Tryz.ntmps207
 go_wp2_with fail
 refine (HC.out _).mono ?_
 rintro e w1 ⟨rfl,hb⟩
 have HB1:=Lh (HB.out.trans (hb.mono HB.out.size))
 clear hb
 go_wp2
 go_ret
 exact ⟨by rw [<-HF.out];rfl,HB1.out⟩
theorem snd_wi (d:Du):snd d=(wiD d.dl 0 1073741824&&wiD d.id 1 1073741824):=by
 unfold snd wiD
 rw [Bool.eq_iff_iff]
 simp
 omega
theorem isout_any (d:Du) (w:World) :
  Calls Tryz.prog 192 #[d.v] w fun e w'=>e=.returned (.bool (!snd d))/\Below w.heap.size w w':=by
 have HB:=Lh ((Below.refl w.heap.size w).alloc (nLR _) (.cells #[.int .i64 d.dl,.int .i64 d.id] 155))
 have HF:=Lh (snd_wi d)
 have H1:=Lh (fun w=>dwithin_any d.dl 0 1073741824 w)
 have H2:=Lh (fun w=>dwithin_any d.id 1 1073741824 w)
 generalize wiD d.dl 0 1073741824=k1 at*
 generalize wiD d.id 1 1073741824=k2 at*
 cases k1 with
 | false=>
  go_enter Tryz.func192,Tryz.ntmps192
  go_wp2_with fail
  refine (H1.out _).mono ?_
  rintro e w1 ⟨rfl,rfl⟩
  go_wp2
  go_ret
  exact ⟨by rw [HF.out];rfl,HB.out⟩
 | true=>
  go_enter Tryz.func192,Tryz.ntmps192
  go_wp2_with fail
  refine (H1.out _).mono ?_
  rintro e w1 ⟨rfl,rfl⟩
  go_wp2_with fail
  refine (H2.out _).mono ?_
  rintro e w1 ⟨rfl,rfl⟩
  go_wp2
  go_ret
  exact ⟨by rw [HF.out];simp,HB.out⟩
end Go.Proofs.YtkecnihgjepfeaaGreat
