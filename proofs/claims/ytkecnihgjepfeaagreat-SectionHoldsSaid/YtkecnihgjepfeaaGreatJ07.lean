/- What is proved here: parts of the proof: Hpe Tbd Tbe Eld Tvd Mpg. -/
import Derived.Test.YtkecnihgjepfeaaGreatJ06
namespace Go.Proofs.YtkecnihgjepfeaaGreat
set_option linter.unusedVariables false
set_option linter.unusedSimpArgs false
set_option maxHeartbeats 8000000
set_option maxRecDepth 20000
theorem ge_get {h:List Du} {k:Nat} (hk:k<h.length):h[k]=ge h k:=by
 unfold ge;rw [List.getD_eq_getElem?_getD,List.getElem?_eq_getElem hk];rfl
def ixE (h:List Du) (id:Int):Nat:=h.findIdx (fun d=>d.id==id)
def ixD (h:List Du) (id:Int):Int:=if ixE h id<h.length then (ixE h id:Int) else -1
theorem ixD_hit {h:List Du} {id:Int} {k:Nat} (hk:k<h.length) (e:(ge h k).id=id) (hn:∀ j,j<k->(ge h j).id≠id):ixD h id=k:=by
 have e:ixE h id=k:=(List.findIdx_eq hk).2 ⟨by rw [ge_get hk];simpa using e,fun j hj=>by rw [ge_get (by omega)];simpa using hn j hj⟩
 unfold ixD
 rw [e,if_pos hk]
theorem ixD_none {h:List Du} {id:Int} (hn:∀ j,j<h.length->(ge h j).id≠id):ixD h id = -1:=by
 unfold ixD
 rw [if_neg]
 intro hl
 have:=List.findIdx_getElem (w:=hl)
 have this' : h[ixE h id].id=id:=beq_iff_eq.1 this
 rw [ge_get hl] at this'
 exact hn _ hl this'
theorem ixD_cases (h:List Du) (id:Int):(ixD h id = -1/\∀ j,j<h.length->(ge h j).id≠id)\/∃ k,k<h.length/\ixD h id=k/\(ge h k).id=id/\∀ j,j<k->(ge h j).id≠id:=by
 by_cases hh:∀ j,j<h.length->(ge h j).id≠id
 ·exact .inl ⟨ixD_none hh,hh⟩
 ·right
  have hl:ixE h id<h.length:=by
   apply Decidable.byContradiction
   intro hc
   have e:ixE h id=h.length:=Nat.le_antisymm List.findIdx_le_length (by omega)
   exact hh fun j hj hid=>by
    have:=(List.findIdx_eq_length.1 e) h[j] (List.getElem_mem hj)
    rw [ge_get hj] at this
    simp [hid] at this
  have hi:h[ixE h id].id=id:=beq_iff_eq.1 (List.findIdx_getElem (p:=fun d:Du=>d.id==id) (w:=hl))
  rw [ge_get hl] at hi
  refine ⟨ixE h id,hl,by unfold ixD;rw [if_pos hl],hi,fun j hlt=>?_⟩
  have:=List.not_of_lt_findIdx hlt
  rw [ge_get (by omega)] at this
  simpa using this
theorem ixD_ge (h:List Du) (id:Int):0<=ixD h id↔∃ d∈h,d.id=id:=by
 rcases ixD_cases h id with ⟨e,hn⟩ | ⟨k,hk,e,hi,_⟩
 ·rw [e]
  refine ⟨fun hx=>absurd hx (by omega),fun ⟨d,hd,hid⟩=>?_⟩
  obtain ⟨j,hj,rfl⟩:=ge_mem hd
  exact absurd hid (hn j hj)
 ·rw [e]
  exact ⟨fun _=>⟨ge h k,mem_ge hk,hi⟩,fun _=>by omega⟩
theorem ixD_lt (h:List Du) (id:Int):-1<=ixD h id/\ixD h id<h.length:=by
 rcases ixD_cases h id with ⟨e,_⟩ | ⟨k,hk,e,_,_⟩ <;> rw [e] <;> omega
theorem ixD_neg {h:List Du} {id:Int} (hx:¬0<=ixD h id):ixD h id = -1:=by have:=ixD_lt h id;omega
def cmF (a b:Du):Int:=if bef a b=true then -1 else if bef b a=true then 1 else 0
theorem cmF_neg (a b:Du):cmF a b<0↔bef a b=true:=by
 unfold cmF
 split
 ·rename_i h;simp [h]
 ·rename_i h
  split <;> simp [h]
/-! Insertion into a sorted row. -/
def Srt (l:List Du):Prop:=l.Pairwise (fun a b=>bef b a=false)
structure SrtTo (l:List Du) (i:Nat) (g:List Du):Prop where
 perm:g.Perm l
 ord:∀ x y,x<y->y<i->bef (ge g y) (ge g x)=false
structure Ins (l:List Du) (i j:Nat) (g:List Du):Prop where
 perm:g.Perm l
 a:∀ x y,x<y->y<=i->x≠j->y≠j->bef (ge g y) (ge g x)=false
 b:∀ y,j<y->y<=i->bef (ge g y) (ge g j)=false
/-! Sifting, step by step. -/
/-! The booleans of Validate. -/
open Classical in
noncomputable def dpD (h:List Du):Bool:=decide (dupD h)
open Classical in
noncomputable def hpD (h:List Du):Bool:=decide (Hp h)
def snD (h:List Du):Bool:=h.all snd
open Classical in
theorem dpD_yes {h:List Du} (x:dupD h):dpD h=true:=decide_eq_true x
open Classical in
theorem dpD_no {h:List Du} (x:¬dupD h):dpD h=false:=decide_eq_false x
open Classical in
theorem dpD_iff (h:List Du):dpD h=true↔dupD h:=decide_eq_true_iff
open Classical in
theorem hpD_yes {h:List Du} (x:Hp h):hpD h=true:=decide_eq_true x
open Classical in
theorem hpD_no {h:List Du} (x:¬Hp h):hpD h=false:=decide_eq_false x
open Classical in
theorem hpD_iff (h:List Du):hpD h=true↔Hp h:=decide_eq_true_iff
theorem snD_iff (h:List Du):snD h=true↔∀ j,j<h.length->snd (ge h j)=true:=by
 rw [snd_iff];unfold snD;exact List.all_eq_true
theorem snD_no {h:List Du} {j:Nat} (hj:j<h.length) (hs:snd (ge h j)=false):snD h=false:=by
 rw [<-Bool.not_eq_true,snD_iff];intro k;rw [k j hj] at hs;cases hs
open Classical in
theorem vaF_eq (h:List Du):vaF h=if 12<h.length then 2 else if snD h=false then 1 else if dpD h=true then 10 else if hpD h=false then 11 else 0:=by
 have e1:(snD h=false)↔¬∀ j,j<h.length->snd (ge h j)=true:=by rw [<-snD_iff];simp
 have e2:(hpD h=false)↔¬Hp h:=by rw [<-hpD_iff];simp
 unfold vaF
 simp only [e1,e2,dpD_iff]
 first | done | rfl | (split <;> (try rfl) <;> split <;> (try rfl) <;> congr)
theorem vaF_2 {h:List Du} (h1:12<h.length):vaF h=2:=by rw [vaF_eq,if_pos h1]
theorem vaF_1 {h:List Du} (h1:h.length<=12) (h2:snD h=false):vaF h=1:=by rw [vaF_eq,if_neg (by omega),if_pos h2]
theorem vaF_10 {h:List Du} (h1:h.length<=12) (h2:snD h=true) (h3:dpD h=true):vaF h=10:=by rw [vaF_eq,if_neg (by omega),if_neg (by simp [h2]),if_pos h3]
theorem vaF_11 {h:List Du} (h1:h.length<=12) (h2:snD h=true) (h3:dpD h=false) (h4:hpD h=false):vaF h=11:=by rw [vaF_eq,if_neg (by omega),if_neg (by simp [h2]),if_neg (by simp [h3]),if_pos h4]
theorem vaF_0 {h:List Du} (h1:h.length<=12) (h2:snD h=true) (h3:dpD h=false) (h4:hpD h=true):vaF h=0:=by rw [vaF_eq,if_neg (by omega),if_neg (by simp [h2]),if_neg (by simp [h3]),if_neg (by simp [h4])]
noncomputable def hpuE (h:List Du) (d:Du):Int:=if vaF h≠0 then vaF h else if snd d=false then 1 else if h.length=12 then 3 else if 0<=ixD h d.id then 10 else 0
noncomputable def hrmE (h:List Du) (id:Int):Int:=if vaF h≠0 then vaF h else if ixD h id<0 then 4 else 0
noncomputable def rmR (h:List Du) (id:Int):List Du:=if hrmE h id=0 then cuF h (ixD h id).toNat else []
end Go.Proofs.YtkecnihgjepfeaaGreat
/- Plain: lists in ascending order of a key: what find, insertion, removal and change of an element give; heaps that consist of such a list's elements. -/
namespace Go.Proofs.YtkecnihgjepfeaaGreat
set_option linter.unusedVariables false
set_option linter.unusedSimpArgs false
set_option maxHeartbeats 8000000
set_option maxRecDepth 20000
section
variable {α:Type} (key:α->Int)
def kFi (l:List α) (x:Int):Int:=if l.findIdx (fun a=>key a==x)<l.length then (l.findIdx (fun a=>key a==x):Int) else -1
def kAt (l:List α) (x:Int):Nat:=l.findIdx (fun a=>decide (x<=key a))
def Asc (l:List α):Prop:=l.Pairwise (fun a b=>key a<key b)
def kIns (l:List α) (a:α):List α:=l.take (kAt key l (key a))++a::l.drop (kAt key l (key a))
variable {key}
theorem Asc.lt {l:List α} (h:Asc key l) {i j:Nat} (hi:i<j) (hj:j<l.length):key (l[i]'(Nat.lt_trans hi hj))<key l[j]:=List.pairwise_iff_getElem.1 h i j _ hj hi
theorem asc_iff {l:List α}:Asc key l↔∀ j (hj:j+1<l.length),key (l[j]'(Nat.lt_of_succ_lt hj))<key l[j+1]:=by
 refine ⟨fun h j hj=>h.lt (Nat.lt_succ_self _) hj,fun h=>List.pairwise_iff_getElem.2 ?_⟩
 have H:∀ d i (hj:i+d+1<l.length),key (l[i]'(by omega))<key l[i+d+1]:=by
  intro d
  induction d with
  | zero=>intro i hj;exact h i hj
  | succ d ih=>intro i hj;exact Int.lt_trans (ih i (by omega)) (h (i+d+1) (by omega))
 intro i j hi hj hij
 have:=H (j - i - 1) i (by omega)
 simpa [show i+(j - i - 1)+1=j by omega] using this
theorem Asc.nodup {l:List α} (h:Asc key l):(l.map key).Nodup:=List.pairwise_map.2 (h.imp fun h=>by omega)
theorem Asc.nil:Asc key ([]:List α):=List.Pairwise.nil
end
end Go.Proofs.YtkecnihgjepfeaaGreat
/- Plain: tables: a list of deadlines in ascending order of the IDs, and a heap that consists of its elements. -/
namespace Go.Proofs.YtkecnihgjepfeaaGreat
set_option linter.unusedVariables false
set_option linter.unusedSimpArgs false
set_option maxHeartbeats 8000000
set_option maxRecDepth 20000
theorem du_ext {a b:Du} (h1:a.dl=b.dl) (h2:a.id=b.id):a=b:=by cases a;cases b;cases h1;cases h2;rfl
instance:DecidableEq Du:=fun a b=>if h:a.dl=b.dl/\a.id=b.id then isTrue (du_ext h.1 h.2) else isFalse fun e=>h (by subst e;exact ⟨rfl,rfl⟩)
theorem perm_of_sub:∀ {h K:List Du},h.Nodup->(∀ d∈h,d∈K)->K.length<=h.length->h.Perm K
 | [],K,_,_,hl=>by
  have:K=[]:=List.eq_nil_of_length_eq_zero (Nat.le_zero.1 hl)
  subst this;exact List.Perm.refl _
 | d::h,K,hn,hs,hl=>by
  have hd:=hs d (List.mem_cons_self ..)
  have hp:=List.perm_cons_erase hd
  obtain ⟨h1,h2⟩:=List.nodup_cons.1 hn
  have hk:(K.erase d).length+1=K.length:=hp.length_eq.symm
  have ih:=perm_of_sub (h:=h) (K:=K.erase d) h2 (fun x hx=>(List.mem_erase_of_ne (fun e=>by subst e;exact h1 hx)).2 (hs x (List.mem_cons_of_mem _ hx))) (by simp only [List.length_cons] at hl;omega)
  exact (ih.cons d).trans hp.symm
def ofT (K h:List Du):Bool:=decide (h.length=K.length/\∀ d∈h,d∈K)
theorem ofT_iff {K h:List Du}:ofT K h=true↔h.length=K.length/\∀ d∈h,d∈K:=decide_eq_true_iff
theorem nodup_of_ids {h:List Du} (hn:(h.map Du.id).Nodup):h.Nodup:=(List.pairwise_map.1 hn).imp fun h e=>h (by rw [e])
theorem ofT_perm {K h:List Du} (hn:(h.map Du.id).Nodup):ofT K h=true↔h.Perm K:=by
 refine ofT_iff.trans ⟨fun ⟨h1,h2⟩=>perm_of_sub (nodup_of_ids hn) h2 (by omega),fun h=>⟨h.length_eq,fun d hd=>h.mem_iff.1 hd⟩⟩
/-! ### What the functions of a table make of its heap -/
/-! ### Lapsed -/
end Go.Proofs.YtkecnihgjepfeaaGreat
namespace Go.Proofs.YtkecnihgjepfeaaGreat
open Go.RowKit
set_option linter.unusedVariables false
set_option linter.unusedSimpArgs false
set_option maxHeartbeats 8000000
set_option maxRecDepth 20000
structure Le where
 m:Msg
 dl:Int
def zL:Le:=⟨zM,0⟩
abbrev Le.v (x:Le):Value:=.agg #[.int .i64 x.m.id,.int .i64 x.m.rt,.int .i64 x.m.ep,.int .i64 x.m.ct,.int .i64 x.m.gn,.int .i64 x.m.st,.string x.m.bd,.int .i64 x.dl]
def Le.du (x:Le):Du:=⟨x.dl,x.m.id⟩
def Le.l (M:Le):List Value:=[.int .i64 M.m.id,.int .i64 M.m.rt,.int .i64 M.m.ep,.int .i64 M.m.ct,.int .i64 M.m.gn,.int .i64 M.m.st,.string M.m.bd,.int .i64 M.dl]
theorem Le.l_len (M:Le):M.l.length=8:=rfl
def ecs (l:List Le):List Value:=l.flatMap Le.l
theorem ecs_cons (M:Le) (l:List Le):ecs (M::l)=M.l++ecs l:=rfl
theorem ecs_len (l:List Le):(ecs l).length=l.length*8:=by
 induction l with
 | nil=>rfl
 | cons M l ih=>rw [ecs_cons,List.length_append,ih,Le.l_len];simp;omega
theorem ecs_drop (l:List Le) (k:Nat):(ecs l).drop (k*8)=ecs (l.drop k):=by
 induction k generalizing l with
 | zero=>simp
 | succ k ih=>
  cases l with
  | nil=>simp [ecs]
  | cons M l=>
   rw [ecs_cons,List.drop_succ_cons,<-ih,show (k+1)*8=M.l.length+k*8 by rw [Le.l_len];omega,List.drop_append,List.drop_eq_nil_of_le (by omega)]
   simp
theorem ecs_at (l:List Le) (k j:Nat) (hk:k<l.length) (hj:j<8):(ecs l)[k*8+j]? = l[k].l[j]?:=by
 have h:=ecs_drop l k
 have e:(ecs l)[k*8+j]? = ((ecs l).drop (k*8))[j]?:=by rw [List.getElem?_drop]
 rw [e,h,List.drop_eq_getElem_cons hk,ecs_cons,List.getElem?_append_left (by rw [Le.l_len];exact hj)]
theorem Le.l_one (M:Le):∀ u∈M.l,u.oneCell' = true:=by
 intro u hu
 simp only [Le.l,List.mem_cons,List.not_mem_nil,or_false] at hu
 rcases hu with rfl | rfl | rfl | rfl | rfl | rfl | rfl | rfl <;> rfl
theorem ecs_one (l:List Le):∀ u∈ecs l,u.oneCell' = true:=by
 intro u hu
 obtain ⟨M,_,h⟩:=List.mem_flatMap.1 hu
 simp only [Le.l,List.mem_cons,List.not_mem_nil,or_false] at h
 rcases h with rfl | rfl | rfl | rfl | rfl | rfl | rfl | rfl <;> rfl
def El (w:World) (B:Nat) (v:Value) (l:List Le):Prop:=∃ A c,v=.slice A l.length c/\l.length<=c/\c<=maxLen/\Rd w B 8 A l.length (ecs l)
abbrev C8 (W:World) (b m:Nat) (M:Le):Prop:=W.cell? ⟨b,m,none⟩=some (.int .i64 M.m.id)/\W.cell? ⟨b,m+1,none⟩=some (.int .i64 M.m.rt)/\W.cell? ⟨b,m+2,none⟩=some (.int .i64 M.m.ep)/\W.cell? ⟨b,m+3,none⟩=some (.int .i64 M.m.ct)/\W.cell? ⟨b,m+4,none⟩=some (.int .i64 M.m.gn)/\W.cell? ⟨b,m+5,none⟩=some (.int .i64 M.m.st)/\W.cell? ⟨b,m+6,none⟩=some (.string M.m.bd)/\W.cell? ⟨b,m+7,none⟩=some (.int .i64 M.dl)
section
variable {w w' : World} {B B' : Nat} {v:Value} {l:List Le} {A:Option Addr} {n c:Nat}
theorem El.nil:El w B (.slice none 0 0) []:=⟨none,0,rfl,nLR _,Nat.zero_le _,Rd.nil none⟩
theorem El.keep (h:El w B v l) (hk:∀ p:Addr,p.block<B->w'.cell? p=w.cell? p):El w' B v l:=by
 obtain ⟨A,c,e,hl,hm,h⟩:=h;exact ⟨A,c,e,hl,hm,h.keep hk⟩
theorem El.more (h:El w B v l) (hB:B<=B'):El w B' v l:=by
 obtain ⟨A,c,e,hl,hm,h⟩:=h;exact ⟨A,c,e,hl,hm,h.more hB⟩
theorem El.below (h:El w B v l) (hb:Below B w w'):El w' B v l:=h.keep fun _ hp=>hb.cell hp
theorem El.drewN (h:El w B v l) (k:Nat):El (w.drewN k) B v l:=h
theorem El.alloc (h:El w B v l) (hB:B<=w.heap.size) (o:Obj):El (w.alloc o) B v l:=h.keep fun p hp=>World.cell?_alloc_lt w o p (by omega)
theorem El.len (h:El w B (.slice A n c) l):n=l.length/\n<=c/\c<=maxLen:=by
 obtain ⟨A',c',e,hl,hm,h⟩:=h
 injection e with e1 e2 e3
 subst e2;subst e3
 exact ⟨rfl,hl,hm⟩
theorem El.rd (h:El w B (.slice A n c) l):Rd w B 8 A n (ecs l):=by
 obtain ⟨A',c',e,hl,hm,h⟩:=h
 injection e with e1 e2 e3
 subst e1;subst e2
 exact h
theorem El.of_own {base:Nat} {e:TypeId} {n:Nat} (h:w.ownsRow base e 8 v n (ecs l)):El w w.heap.size v l:=by
 have hl:n=l.length:=by have:=h.1;rw [ecs_len] at this;omega
 subst hl
 rcases h.2 with ⟨hv,h0⟩ | ⟨g,cap,cur,hv,_,_,hl,hm,_⟩
 ·subst hv;exact ⟨none,0,by rw [h0],by omega,Nat.zero_le _,by rw [show l=[] from List.length_eq_zero_iff.1 h0];exact Rd.nil _⟩
 ·subst hv;exact ⟨_,cap,rfl,hl,hm,Rd.of_own h⟩
theorem El.at_ {k:Nat} (h:El w B (.slice A n c) l) (hk:k<l.length):∃ b o,A=some ⟨b,o,none⟩/\b<B/\(w.cell? ⟨b,o+k*8,none⟩=some (.int .i64 l[k].m.id)/\w.cell? ⟨b,o+k*8+1,none⟩=some (.int .i64 l[k].m.rt)/\w.cell? ⟨b,o+k*8+2,none⟩=some (.int .i64 l[k].m.ep)/\w.cell? ⟨b,o+k*8+3,none⟩=some (.int .i64 l[k].m.ct)/\w.cell? ⟨b,o+k*8+4,none⟩=some (.int .i64 l[k].m.gn)/\w.cell? ⟨b,o+k*8+5,none⟩=some (.int .i64 l[k].m.st)/\w.cell? ⟨b,o+k*8+6,none⟩=some (.string l[k].m.bd)/\w.cell? ⟨b,o+k*8+7,none⟩=some (.int .i64 l[k].dl)):=by
 have hn:=h.len.1
 obtain ⟨b,o,e,hb,hc⟩:=h.rd.2 (by omega)
 have g:∀ j u,j<8->l[k].l[j]? = some u->w.cell? ⟨b,o+k*8+j,none⟩=some u:=fun j u hj hu=>by
  rw [Nat.add_assoc];exact hc _ u (by rw [ecs_at l k j hk hj];exact hu)
 exact ⟨b,o,e,hb,g 0 _ (by omega) rfl,g 1 _ (by omega) rfl,g 2 _ (by omega) rfl,g 3 _ (by omega) rfl,g 4 _ (by omega) rfl,g 5 _ (by omega) rfl,g 6 _ (by omega) rfl,g 7 _ (by omega) rfl⟩
end
def ERow (W:World) (q n:Nat) (f:Nat->Le):Prop:=q<W.heap.size/\(∀ k,k<n->∀ j,j<8->W.cell? ⟨q,k*8+j,none⟩=(f k).l[j]?)/\∀ o,W.frozen? ⟨q,o,none⟩=false
section
variable {W W' : World} {q n:Nat} {f g:Nat->Le}
abbrev set8 (W:World) (q m:Nat) (M:Le):World:=(((((((W.setCell ⟨q,m,none⟩ (.int .i64 M.m.id)).setCell ⟨q,m+1,none⟩ (.int .i64 M.m.rt)).setCell ⟨q,m+2,none⟩ (.int .i64 M.m.ep)).setCell ⟨q,m+3,none⟩ (.int .i64 M.m.ct)).setCell ⟨q,m+4,none⟩ (.int .i64 M.m.gn)).setCell ⟨q,m+5,none⟩ (.int .i64 M.m.st)).setCell ⟨q,m+6,none⟩ (.string M.m.bd)).setCell ⟨q,m+7,none⟩ (.int .i64 M.dl)
end
end Go.Proofs.YtkecnihgjepfeaaGreat
/- Plain: tables of leases: Validate's answer, what Grant, Release and Extend return, and that a table stays valid. -/
namespace Go.Proofs.YtkecnihgjepfeaaGreat
set_option linter.unusedVariables false
set_option linter.unusedSimpArgs false
set_option maxHeartbeats 8000000
set_option maxRecDepth 20000
def Le.id (x:Le):Int:=x.m.id
def lg (l:List Le) (i:Nat):Le:=l.getD i zL
theorem lg_get {l:List Le} {i:Nat} (hi:i<l.length):l[i]=lg l i:=by
 unfold lg;rw [List.getD_eq_getElem?_getD,List.getElem?_eq_getElem hi];rfl
def leC (l:List Le) (i:Nat):Int:=
 if vf (lg l i).m≠0 then vf (lg l i).m else if (lg l i).m.gn=0 then 7 else if (lg l i).dl<0\/1073741824<(lg l i).dl then 1 else if 0<i/\(lg l i).id<=(lg l (i - 1)).id then 11 else 0
def leS (l:List Le) (i:Nat):Int:=if h:i<l.length then (if leC l i≠0 then leC l i else leS l (i+1)) else 0
termination_by l.length - i
theorem leS_end {l:List Le} {i:Nat} (h:¬i<l.length):leS l i=0:=by unfold leS;rw [dif_neg h]
theorem leS_bad {l:List Le} {i:Nat} (h:i<l.length) (hc:leC l i≠0):leS l i=leC l i:=by unfold leS;rw [dif_pos h,if_pos hc]
theorem leS_good {l:List Le} {i:Nat} (h:i<l.length) (hc:leC l i=0):leS l i=leS l (i+1):=by rw [leS,dif_pos h,if_neg (by simpa using hc)]
theorem leS_zero {l:List Le}:∀ n i,n=l.length - i->(leS l i=0↔∀ k,i<=k->k<l.length->leC l k=0)
 | 0,i,hn=>by
  rw [leS_end (by omega)]
  exact ⟨fun _ k h1 h2=>absurd h2 (by omega),fun _=>rfl⟩
 | n+1,i,hn=>by
  have hi:i<l.length:=by omega
  by_cases hc:leC l i=0
  ·rw [leS_good hi hc,leS_zero n (i+1) (by omega)]
   refine ⟨fun h k h1 h2=>?_,fun h k h1 h2=>h k (by omega) h2⟩
   rcases Nat.eq_or_lt_of_le h1 with e | e
   ·subst e;exact hc
   ·exact h k e h2
  ·rw [leS_bad hi hc]
   exact ⟨fun h=>absurd h hc,fun h=>absurd (h i (nLR _) hi) hc⟩
theorem leC_zero {l:List Le} {i:Nat}:leC l i=0↔vf (lg l i).m=0/\(lg l i).m.gn≠0/\0<=(lg l i).dl/\(lg l i).dl<=1073741824/\(0<i->(lg l (i - 1)).id<(lg l i).id):=by
 unfold leC
 split
 ·rename_i h;exact ⟨fun e=>absurd e h,fun e=>absurd e.1 h⟩
 ·rename_i h
  have h:vf (lg l i).m=0:=Decidable.not_not.1 h
  split
  ·rename_i h2;exact ⟨fun e=>by omega,fun e=>absurd h2 e.2.1⟩
  ·split
   ·exact ⟨fun e=>by omega,fun e=>by omega⟩
   ·split
    ·exact ⟨fun e=>by omega,fun e=>by omega⟩
    ·exact ⟨fun _=>⟨h,by omega,by omega,by omega,by omega⟩,fun _=>rfl⟩
def leOk (x:Le):Prop:=vf x.m=0/\x.m.gn≠0/\0<=x.dl/\x.dl<=1073741824
theorem leS_iff (l:List Le):leS l 0=0↔(∀ x∈l,leOk x)/\Asc Le.id l:=by
 rw [leS_zero _ 0 rfl]
 constructor
 ·intro h
  refine ⟨fun x hx=>?_,asc_iff.2 fun j hj=>?_⟩
  ·obtain ⟨i,hi,e⟩:=List.mem_iff_getElem.1 hx
   obtain ⟨h1,h2,h3,h4,_⟩:=leC_zero.1 (h i (Nat.zero_le _) hi)
   rw [<-lg_get hi,e] at h1 h2 h3 h4
   exact ⟨h1,h2,h3,h4⟩
  ·have h5:=(leC_zero.1 (h (j+1) (Nat.zero_le _) hj)).2.2.2.2 (by omega)
   rw [Nat.add_sub_cancel,<-lg_get hj,<-lg_get (by omega)] at h5
   exact h5
 ·rintro ⟨h1,h2⟩ k _ hk
  obtain ⟨g1,g2,g3,g4⟩:=h1 _ (List.getElem_mem hk)
  refine leC_zero.2 ?_
  rw [<-lg_get hk]
  refine ⟨g1,g2,g3,g4,fun h0=>?_⟩
  rw [<-lg_get (by omega:k - 1<l.length)]
  exact h2.lt (by omega) hk
noncomputable def tbV (l:List Le) (h:List Du):Int:=if 12<l.length then 2 else if leS l 0≠0 then leS l 0 else if vaF h≠0 then vaF h else if ofT (l.map Le.du) h=false then 7 else 0
structure TbOk (l:List Le) (h:List Du):Prop where
 len:l.length<=12
 ok:∀ x∈l,leOk x
 asc:Asc Le.id l
 va:vaF h=0
 perm:h.Perm (l.map Le.du)
theorem vaF_ids {h:List Du} (e:vaF h=0):(h.map Du.id).Nodup:=(dupD_iff h).1 (vaF_zero e).2.2.1
theorem tbV_iff (l:List Le) (h:List Du):tbV l h=0↔TbOk l h:=by
 unfold tbV
 constructor
 ·intro e
  by_cases h1:12<l.length
  ·rw [if_pos h1] at e;exact absurd e (by decide)
  rw [if_neg h1] at e
  by_cases h2:leS l 0=0
  ·rw [if_neg (by simpa using h2)] at e
   by_cases h3:vaF h=0
   ·rw [if_neg (by simpa using h3)] at e
    cases h4:ofT (l.map Le.du) h with
    | false=>rw [if_pos h4] at e;exact absurd e (by decide)
    | true=>exact ⟨by omega,((leS_iff l).1 h2).1,((leS_iff l).1 h2).2,h3,(ofT_perm (vaF_ids h3)).1 h4⟩
   ·rw [if_pos h3] at e;exact absurd e h3
  ·rw [if_pos h2] at e;exact absurd e h2
 ·intro t
  rw [if_neg (by have:=t.len;omega),if_neg (by simpa using (leS_iff l).2 ⟨t.ok,t.asc⟩),if_neg (by simpa using t.va),if_neg (by rw [(ofT_perm (vaF_ids t.va)).2 t.perm];simp)]
theorem TbOk.hlen {l:List Le} {h:List Du} (t:TbOk l h):h.length=l.length:=by rw [t.perm.length_eq,List.length_map]
theorem TbOk.nil:TbOk [] []:=⟨Nat.zero_le _,fun x hx=>(by cases hx),Asc.nil,vaF_ok (Nat.zero_le _) (fun j hj=>absurd hj (Nat.not_lt_zero _)) (fun ⟨i,j,_,hj,_⟩=>absurd hj (Nat.not_lt_zero _)) (fun j h0 hj=>absurd hj (Nat.not_lt_zero _)),List.Perm.refl _⟩
noncomputable def grE (l:List Le) (h:List Du) (x:Le):Int:=
 if tbV l h≠0 then tbV l h else if vf x.m≠0 then vf x.m else if x.m.gn=0 then 7 else if x.dl<0\/1073741824<x.dl then 1 else if l.length=12 then 3 else if 0<=kFi Le.id l x.id then 10 else 0
theorem vf_hv {M:Msg} (h:vf M=0):hv M=true:=by
 cases e:hv M with
 | true=>rfl
 | false=>unfold vf at h;rw [e] at h;simp at h
theorem vf_id {M:Msg} (h:vf M=0):1<=M.id/\M.id<=1073741824:=by
 have h1:=vf_hv h
 unfold hv at h1
 exact wi_of (Bool.and_eq_true_iff.1 h1).1
noncomputable def rlE (l:List Le) (h:List Du) (id:Int):Int:=if tbV l h≠0 then tbV l h else if kFi Le.id l id<0 then 4 else 0
end Go.Proofs.YtkecnihgjepfeaaGreat
namespace Go.Proofs.YtkecnihgjepfeaaGreat
open Go.RowKit
set_option linter.unusedVariables false
set_option linter.unusedSimpArgs false
set_option maxHeartbeats 8000000
set_option maxRecDepth 20000
def puF (M:Msg) (e:Int):Bool:=decide (M.ep<e)
theorem purged_any (M:Msg) (k:Int) (w:World):Calls Tryz.prog 147 #[M.v,.int .i64 k] w fun e w'=>e=.returned (.bool (puF M k))/\Below w.heap.size w w':=by
 have HB:=Lh ((Below.refl w.heap.size w).alloc (nLR _) (.cells M.cs 79))
 by_cases h:M.ep<k
 ·have HF:=Lh (show puF M k=true from decide_eq_true h)
  go_enter Tryz.func147,Tryz.ntmps147
  go_wp2
  go_ret
  exact ⟨by rw [HF.out];rfl,HB.out⟩
 ·have HF:=Lh (show puF M k=false from decide_eq_false h)
  go_enter Tryz.func147,Tryz.ntmps147
  go_wp2
  go_ret
  exact ⟨by rw [HF.out];rfl,HB.out⟩
end Go.Proofs.YtkecnihgjepfeaaGreat
