/- What is proved here: (plain functions) what Decode reads; a message that lies in a block; (plain) a list of messages that lies in memory: what is there, how it is kept, cut, stored into; (plain) the place of the message with an ID in a list; (plain) addresses and slices that lie from a block on; (plain) a block of messages of the call's own, that may be written. -/
import Derived.Test.YtncgbldcjfbknaaGreatJ02
import Derived.Lib.ConvBytes
import Derived.Deep.AppendLies
import Derived.Deep.MidRow
import Derived.Laws.MakeOwn
namespace Go.Proofs.YtncgbldcjfbknaaGreat
open Go.RowKit
set_option linter.unusedVariables false
def MAt (w:World) (g:Nat) (f:Nat→Int) (b:ByteArray):Prop:=
 g<w.heap.size∧(∀ j,j<6→w.cell? ⟨g,j,none⟩=some (.int .i64 (f j)))∧w.cell? ⟨g,6,none⟩=some (.string b)∧∀ o,o<7→w.frozen? ⟨g,o,none⟩=false
section
variable {w w' : World} {g B:Nat} {f:Nat→Int} {b:ByteArray}
theorem MAt.fresh (w:World) (x0 x1 x2 x3 x4 x5:Int) (b:ByteArray) (t:TypeId) (h0:f 0=x0) (h1:f 1=x1) (h2:f 2=x2) (h3:f 3=x3) (h4:f 4=x4) (h5:f 5=x5):MAt (w.alloc (.cells #[.int .i64 x0,.int .i64 x1,.int .i64 x2,.int .i64 x3,.int .i64 x4,.int .i64 x5,.string b] t)) w.heap.size f b:=by
 subst h0;subst h1;subst h2;subst h3;subst h4;subst h5
 refine ⟨by simp,fun j hj=>?_,by simp [go_sem],fun o ho=>by simp [go_sem]⟩
 match j,hj with
 | 0,_=>simp [go_sem]
 | 1,_=>simp [go_sem]
 | 2,_=>simp [go_sem]
 | 3,_=>simp [go_sem]
 | 4,_=>simp [go_sem]
 | 5,_=>simp [go_sem]
theorem MAt.below (h:MAt w g f b) (hb:Below B w w') (hg:g<B):MAt w' g f b:=
 ⟨Nat.lt_of_lt_of_le h.1 hb.size,fun j hj=>(hb.cell (p:=⟨g,j,none⟩) hg).trans (h.2.1 j hj),(hb.cell (p:=⟨g,6,none⟩) hg).trans h.2.2.1,fun o ho=>(hb.frozen (p:=⟨g,o,none⟩) hg).trans (h.2.2.2 o ho)⟩
theorem MAt.grown (h:MAt w g f b) {r:Nat} (hg:w.grownBy w' (some r)) (hne:g≠r):MAt w' g f b:=
 ⟨Nat.lt_of_lt_of_le h.1 hg.size,fun j hj=>(hg.cell_far ⟨g,j,none⟩ h.1 (fun e=>hne (by injection e))).trans (h.2.1 j hj),(hg.cell_far ⟨g,6,none⟩ h.1 (fun e=>hne (by injection e))).trans h.2.2.1,fun o ho=>(hg.frozen_far ⟨g,o,none⟩ h.1 (fun e=>hne (by injection e))).trans (h.2.2.2 o ho)⟩
theorem MAt.alloc (h:MAt w g f b) (o:Obj):MAt (w.alloc o) g f b:=h.below (w':=w.alloc o) ((Below.refl w.heap.size w).alloc (Nat.le_refl _) o) h.1
theorem MAt.other (h:MAt w g f b) {p:Addr} (hp:p.block≠g) (v:Value):MAt (w.setCell p v) g f b:=
 ⟨by simpa using h.1,fun j hj=>(World.cell?_setCell_other w p ⟨g,j,none⟩ v (fun e=>hp (by rw [e]))).trans (h.2.1 j hj),(World.cell?_setCell_other w p ⟨g,6,none⟩ v (fun e=>hp (by rw [e]))).trans h.2.2.1,fun o ho=>by rw [World.frozen?_setCell];exact h.2.2.2 o ho⟩
theorem MAt.put (h:MAt w g f b) (k:Nat) (hk:k<6) (n:Int):MAt (w.setCell ⟨g,k,none⟩ (.int .i64 n)) g (fun j=>if j=k then n else f j) b:=by
 refine ⟨by simpa using h.1,fun j hj=>?_,?_,fun o ho=>by rw [World.frozen?_setCell];exact h.2.2.2 o ho⟩
 ·by_cases e:j=k
  ·subst e
   have:=h.2.1 j hj
   simp [go_sem,this]
  ·show _=some (Value.int .i64 (if j=k then n else f j))
   rw [if_neg e]
   exact (World.cell?_setCell_other w _ _ _ (fun he=>by injection he;omega)).trans (h.2.1 j hj)
 ·exact (World.cell?_setCell_other w _ _ _ (fun he=>by injection he;omega)).trans h.2.2.1
theorem MAt.body (h:MAt w g f b) (s:ByteArray):MAt (w.setCell ⟨g,6,none⟩ (.string s)) g f s:=by
 refine ⟨by simpa using h.1,fun j hj=>(World.cell?_setCell_other w _ _ _ (fun he=>by injection he;omega)).trans (h.2.1 j hj),?_,fun o ho=>by rw [World.frozen?_setCell];exact h.2.2.2 o ho⟩
 have:=h.2.2.1
 simp [go_sem,this]
theorem MAt.facts (h:MAt w g f b):(w.cell? ⟨g,0,none⟩=some (.int .i64 (f 0))∧w.cell? ⟨g,1,none⟩=some (.int .i64 (f 1))∧w.cell? ⟨g,2,none⟩=some (.int .i64 (f 2))∧w.cell? ⟨g,3,none⟩=some (.int .i64 (f 3))∧w.cell? ⟨g,4,none⟩=some (.int .i64 (f 4))∧w.cell? ⟨g,5,none⟩=some (.int .i64 (f 5))∧w.cell? ⟨g,6,none⟩=some (.string b))∧
  (w.frozen? ⟨g,0,none⟩=false∧w.frozen? ⟨g,1,none⟩=false∧w.frozen? ⟨g,2,none⟩=false∧w.frozen? ⟨g,3,none⟩=false∧w.frozen? ⟨g,4,none⟩=false∧w.frozen? ⟨g,5,none⟩=false∧w.frozen? ⟨g,6,none⟩=false):=
 ⟨⟨h.2.1 0 (by omega),h.2.1 1 (by omega),h.2.1 2 (by omega),h.2.1 3 (by omega),h.2.1 4 (by omega),h.2.1 5 (by omega),h.2.2.1⟩,h.2.2.2 0 (by omega),h.2.2.2 1 (by omega),h.2.2.2 2 (by omega),h.2.2.2 3 (by omega),h.2.2.2 4 (by omega),h.2.2.2 5 (by omega),h.2.2.2 6 (by omega)⟩
def NAt (w:World) (g:Nat) (f:Nat→Int):Prop:=
 g<w.heap.size∧(∀ j,j<6→w.cell? ⟨g,j,none⟩=some (.int .i64 (f j)))∧∀ o,o<6→w.frozen? ⟨g,o,none⟩=false
end
theorem below_drewN {B:Nat} {a w:World} (h:Below B a w) (n:Nat):Below B a (w.drewN n):=⟨h.os,h.tape,h.output,h.size,h.block⟩
def Msg.l (M:Msg):List Value:=[.int .i64 M.id,.int .i64 M.rt,.int .i64 M.ep,.int .i64 M.ct,.int .i64 M.gn,.int .i64 M.st,.string M.bd]
theorem Msg.l_len (M:Msg):M.l.length=7:=rfl
def lcs (l:List Msg):List Value:=l.flatMap Msg.l
theorem lcs_cons (M:Msg) (l:List Msg):lcs (M::l)=M.l++lcs l:=rfl
theorem lcs_app (l m:List Msg):lcs (l++m)=lcs l++lcs m:=by simp [lcs]
theorem lcs_len (l:List Msg):(lcs l).length=l.length*7:=by
 induction l with
 | nil=>rfl
 | cons M l ih=>rw [lcs_cons,List.length_append,ih,Msg.l_len];simp;omega
theorem lcs_drop (l:List Msg) (k:Nat):(lcs l).drop (k*7)=lcs (l.drop k):=by
 induction k generalizing l with
 | zero=>simp
 | succ k ih=>
  cases l with
  | nil=>simp [lcs]
  | cons M l=>
   rw [lcs_cons,List.drop_succ_cons,←ih,show (k+1)*7=M.l.length+k*7 by rw [Msg.l_len];omega,List.drop_append,List.drop_eq_nil_of_le (by omega)]
   simp
theorem lcs_take (l:List Msg) (k:Nat):(lcs l).take (k*7)=lcs (l.take k):=by
 induction k generalizing l with
 | zero=>simp [lcs]
 | succ k ih=>
  cases l with
  | nil=>simp [lcs]
  | cons M l=>
   rw [lcs_cons,List.take_succ_cons,lcs_cons,←ih,show (k+1)*7=M.l.length+k*7 by rw [Msg.l_len];omega,List.take_append,List.take_of_length_le (by omega)]
   simp
theorem lcs_at (l:List Msg) (k j:Nat) (hk:k<l.length) (hj:j<7):(lcs l)[k*7+j]? = l[k].l[j]?:=by
 have h:=lcs_drop l k
 have e:(lcs l)[k*7+j]? = ((lcs l).drop (k*7))[j]?:=by rw [List.getElem?_drop]
 rw [e,h,List.drop_eq_getElem_cons hk,lcs_cons,List.getElem?_append_left (by rw [Msg.l_len];exact hj)]
theorem Msg.l_one (M:Msg):∀ u∈M.l,u.oneCell' = true:=by
 intro u hu
 simp only [Msg.l,List.mem_cons,List.not_mem_nil,or_false] at hu
 rcases hu with rfl | rfl | rfl | rfl | rfl | rfl | rfl <;> rfl
theorem lcs_one (l:List Msg):∀ u∈lcs l,u.oneCell' = true:=by
 intro u hu
 obtain ⟨M,_,h⟩:=List.mem_flatMap.1 hu
 simp only [Msg.l,List.mem_cons,List.not_mem_nil,or_false] at h
 rcases h with rfl | rfl | rfl | rfl | rfl | rfl | rfl <;> rfl
def Ls (w:World) (B:Nat) (v:Value) (l:List Msg):Prop:=∃ A c,v=.slice A l.length c∧l.length≤c∧c≤maxLen∧Rd w B 7 A l.length (lcs l)
abbrev C7 (W:World) (b m:Nat) (M:Msg):Prop:=W.cell? ⟨b,m,none⟩=some (.int .i64 M.id)∧W.cell? ⟨b,m+1,none⟩=some (.int .i64 M.rt)∧W.cell? ⟨b,m+2,none⟩=some (.int .i64 M.ep)∧W.cell? ⟨b,m+3,none⟩=some (.int .i64 M.ct)∧W.cell? ⟨b,m+4,none⟩=some (.int .i64 M.gn)∧W.cell? ⟨b,m+5,none⟩=some (.int .i64 M.st)∧W.cell? ⟨b,m+6,none⟩=some (.string M.bd)
theorem C7.below {B:Nat} {W W' : World} {b m:Nat} {M:Msg} (h:C7 W b m M) (hb:Below B W W') (hl:b<B):C7 W' b m M:=by
 obtain ⟨c0,c1,c2,c3,c4,c5,c6⟩:=h
 exact ⟨(hb.cell (p:=⟨b,m,none⟩) hl).trans c0,(hb.cell (p:=⟨b,m+1,none⟩) hl).trans c1,(hb.cell (p:=⟨b,m+2,none⟩) hl).trans c2,(hb.cell (p:=⟨b,m+3,none⟩) hl).trans c3,(hb.cell (p:=⟨b,m+4,none⟩) hl).trans c4,(hb.cell (p:=⟨b,m+5,none⟩) hl).trans c5,(hb.cell (p:=⟨b,m+6,none⟩) hl).trans c6⟩
section
variable {w w' : World} {B B' : Nat} {v:Value} {l:List Msg} {A:Option Addr} {n c:Nat}
theorem Ls.nil:Ls w B (.slice none 0 0) []:=⟨none,0,rfl,Nat.le_refl _,Nat.zero_le _,Rd.nil none⟩
theorem Ls.keep (h:Ls w B v l) (hk:∀ p:Addr,p.block<B→w'.cell? p=w.cell? p):Ls w' B v l:=by
 obtain ⟨A,c,e,hl,hm,h⟩:=h;exact ⟨A,c,e,hl,hm,h.keep hk⟩
theorem Ls.more (h:Ls w B v l) (hB:B≤B'):Ls w B' v l:=by
 obtain ⟨A,c,e,hl,hm,h⟩:=h;exact ⟨A,c,e,hl,hm,h.more hB⟩
theorem Ls.below (h:Ls w B v l) (hb:Below B w w'):Ls w' B v l:=h.keep fun _ hp=>hb.cell hp
theorem Ls.drewN (h:Ls w B v l) (k:Nat):Ls (w.drewN k) B v l:=h
theorem Ls.drew (h:Ls w B v l):Ls w.drew B v l:=h
theorem Ls.alloc (h:Ls w B v l) (hB:B≤w.heap.size) (o:Obj):Ls (w.alloc o) B v l:=h.keep fun p hp=>World.cell?_alloc_lt w o p (by omega)
theorem Ls.setCell (h:Ls w B v l) {p:Addr} (hB:B≤p.block) (u:Value):Ls (w.setCell p u) B v l:=
 h.keep fun q hq=>World.cell?_setCell_other w p q u (fun e=>by subst e;omega)
theorem Ls.len (h:Ls w B (.slice A n c) l):n=l.length∧n≤c∧c≤maxLen:=by
 obtain ⟨A',c',e,hl,hm,h⟩:=h
 injection e with e1 e2 e3
 subst e2;subst e3
 exact ⟨rfl,hl,hm⟩
theorem Ls.rd (h:Ls w B (.slice A n c) l):Rd w B 7 A n (lcs l):=by
 obtain ⟨A',c',e,hl,hm,h⟩:=h
 injection e with e1 e2 e3
 subst e1;subst e2
 exact h
theorem Ls.form (h:Ls w B v l):∃ A c,v=.slice A l.length c∧l.length≤c∧c≤maxLen:=by
 obtain ⟨A,c,e,hl,hm,_⟩:=h;exact ⟨A,c,e,hl,hm⟩
theorem Ls.of_own {base:Nat} {e:TypeId} {n:Nat} (h:w.ownsRow base e 7 v n (lcs l)):Ls w w.heap.size v l:=by
 have hl:n=l.length:=by have:=h.1;rw [lcs_len] at this;omega
 subst hl
 rcases h.2 with ⟨hv,h0⟩ | ⟨g,cap,cur,hv,_,_,hl,hm,_⟩
 ·subst hv;exact ⟨none,0,by rw [h0],by omega,Nat.zero_le _,by rw [show l=[] from List.length_eq_zero_iff.1 h0];exact Rd.nil _⟩
 ·subst hv;exact ⟨_,cap,rfl,hl,hm,Rd.of_own h⟩
theorem Ls.at_ {k:Nat} (h:Ls w B (.slice A n c) l) (hk:k<l.length):∃ b o,A=some ⟨b,o,none⟩∧b<B∧(w.cell? ⟨b,o+k*7,none⟩=some (.int .i64 l[k].id)∧w.cell? ⟨b,o+k*7+1,none⟩=some (.int .i64 l[k].rt)∧w.cell? ⟨b,o+k*7+2,none⟩=some (.int .i64 l[k].ep)∧w.cell? ⟨b,o+k*7+3,none⟩=some (.int .i64 l[k].ct)∧w.cell? ⟨b,o+k*7+4,none⟩=some (.int .i64 l[k].gn)∧w.cell? ⟨b,o+k*7+5,none⟩=some (.int .i64 l[k].st)∧w.cell? ⟨b,o+k*7+6,none⟩=some (.string l[k].bd)):=by
 have hn:=h.len.1
 obtain ⟨b,o,e,hb,hc⟩:=h.rd.2 (by omega)
 have g:∀ j u,j<7→l[k].l[j]? = some u→w.cell? ⟨b,o+k*7+j,none⟩=some u:=fun j u hj hu=>by
  rw [Nat.add_assoc];exact hc _ u (by rw [lcs_at l k j hk hj];exact hu)
 exact ⟨b,o,e,hb,g 0 _ (by omega) rfl,g 1 _ (by omega) rfl,g 2 _ (by omega) rfl,g 3 _ (by omega) rfl,g 4 _ (by omega) rfl,g 5 _ (by omega) rfl,g 6 _ (by omega) rfl⟩
end
def ixN (l:List Msg) (id:Int):Nat:=l.findIdx (fun M=>M.id==id)
def ixF (l:List Msg) (id:Int):Int:=if ixN l id<l.length then (ixN l id:Int) else -1
theorem ixF_hit {l:List Msg} {id:Int} {k:Nat} (hk:k<l.length) (h:l[k].id=id) (hn:∀ j (hj:j<l.length),j<k→l[j].id≠id):ixF l id=k:=by
 have e:ixN l id=k:=(List.findIdx_eq hk).2 ⟨by simpa using h,fun j hj=>by simpa using hn j (by omega) hj⟩
 unfold ixF
 rw [e,if_pos hk]
theorem ixF_none {l:List Msg} {id:Int} (hn:∀ j (hj:j<l.length),l[j].id≠id):ixF l id = -1:=by
 unfold ixF
 rw [if_neg]
 intro h
 have:=List.findIdx_getElem (w:=h)
 have this' : l[ixN l id].id=id:=beq_iff_eq.1 this
 exact hn _ h this'
theorem ixF_cases (l:List Msg) (id:Int):(ixF l id = -1∧∀ j (hj:j<l.length),l[j].id≠id)∨∃ k,∃ hk:k<l.length,ixF l id=k∧l[k].id=id∧∀ j (hj:j<l.length),j<k→l[j].id≠id:=by
 by_cases h:∀ j (hj:j<l.length),l[j].id≠id
 ·exact .inl ⟨ixF_none h,h⟩
 ·right
  have hl:ixN l id<l.length:=by
   apply Decidable.byContradiction
   intro hc
   have e:ixN l id=l.length:=Nat.le_antisymm List.findIdx_le_length (by omega)
   exact h fun j hj hid=>by
    have:=(List.findIdx_eq_length.1 e) l[j] (List.getElem_mem hj)
    simp [hid] at this
  refine ⟨ixN l id,hl,by unfold ixF;rw [if_pos hl],beq_iff_eq.1 (List.findIdx_getElem (p:=fun M:Msg=>M.id==id) (w:=hl)),fun j hj hlt=>?_⟩
  have:=List.not_of_lt_findIdx hlt
  simpa using this
theorem ixF_ge (l:List Msg) (id:Int):0≤ixF l id↔∃ M∈l,M.id=id:=by
 rcases ixF_cases l id with ⟨e,h⟩ | ⟨k,hk,e,hi,_⟩
 ·rw [e]
  refine ⟨fun h=>absurd h (by omega),fun ⟨M,hM,hid⟩=>?_⟩
  obtain ⟨j,hj,rfl⟩:=List.getElem_of_mem hM
  exact absurd hid (h j hj)
 ·rw [e]
  exact ⟨fun _=>⟨l[k],List.getElem_mem hk,hi⟩,fun _=>by omega⟩
theorem ixF_lt (l:List Msg) (id:Int):-1≤ixF l id∧ixF l id<l.length:=by
 rcases ixF_cases l id with ⟨e,h⟩ | ⟨k,hk,e,hi,_⟩ <;> rw [e] <;> omega
def Nw (lo:Nat) (A:Option Addr):Prop:=∀ a,A=some a→lo≤a.block
theorem nw_none {lo:Nat}:Nw lo none:=fun a h=>by cases h
theorem nw_some {lo b o:Nat} (h:lo≤b):Nw lo (some ⟨b,o,none⟩):=fun a e=>by injection e with e;subst e;exact h
theorem nw_low {lo lo' : Nat} {A:Option Addr} (h:Nw lo A) (hl:lo'≤lo):Nw lo' A:=fun a e=>Nat.le_trans hl (h a e)
def NwV (lo:Nat) (v:Value):Prop:=∀ A n c,v=.slice A n c→Nw lo A
theorem nwv_mk {lo n c:Nat} {A:Option Addr} (h:Nw lo A):NwV lo (.slice A n c):=fun A' n' c' e=>by injection e with e1 _ _;subst e1;exact h
theorem nwv_of {lo n c:Nat} {A:Option Addr} (h:NwV lo (.slice A n c)):Nw lo A:=h _ _ _ rfl
theorem nwv_low {lo lo' : Nat} {v:Value} (h:NwV lo v) (hl:lo'≤lo):NwV lo' v:=fun A n c e=>nw_low (h A n c e) hl
theorem nwv_own {W:World} {base lo n size:Nat} {e:TypeId} {v:Value} {xs:List Value} (h:W.ownsRow base e size v n xs) (hl:lo≤base):NwV lo v:=by
 rcases h.2 with ⟨hv,_⟩ | ⟨g,cap,cur,hv,hg,_⟩
 ·subst hv;exact nwv_mk nw_none
 ·subst hv;exact nwv_mk (nw_some (by omega))
def MRow (W:World) (q n:Nat) (f:Nat→Msg):Prop:=q<W.heap.size∧(∀ k,k<n→∀ j,j<7→W.cell? ⟨q,k*7+j,none⟩=(f k).l[j]?)∧∀ o,W.frozen? ⟨q,o,none⟩=false
section
variable {W W' : World} {q n:Nat} {f g:Nat→Msg}
theorem MRow.below {B:Nat} (h:MRow W q n f) (hb:Below B W W') (hg:q<B):MRow W' q n f:=
 ⟨Nat.lt_of_lt_of_le h.1 hb.size,fun k hk j hj=>(hb.cell (p:=⟨q,k*7+j,none⟩) hg).trans (h.2.1 k hk j hj),fun o=>(hb.frozen (p:=⟨q,o,none⟩) hg).trans (h.2.2 o)⟩
theorem MRow.alloc (h:MRow W q n f) (o:Obj):MRow (W.alloc o) q n f:=h.below (W':=W.alloc o) ((Below.refl W.heap.size W).alloc (Nat.le_refl _) o) h.1
theorem MRow.drew (h:MRow W q n f):MRow W.drew q n f:=h
theorem MRow.congr (h:MRow W q n f) (e:∀ k,k<n→f k=g k):MRow W q n g:=
 ⟨h.1,fun k hk j hj=>by rw [h.2.1 k hk j hj,e k hk],h.2.2⟩
theorem MRow.other (h:MRow W q n f) {p:Addr} (hp:p.block≠q) (v:Value):MRow (W.setCell p v) q n f:=
 ⟨by simpa using h.1,fun k hk j hj=>(World.cell?_setCell_other W p _ v (fun e=>hp (by rw [e]))).trans (h.2.1 k hk j hj),fun o=>by rw [World.frozen?_setCell];exact h.2.2 o⟩
theorem MRow.there (h:MRow W q n f) {k:Nat} (hk:k<n):W.there q (k*7) 7:=fun j hj=>by
 refine ⟨?_,h.2.2 _⟩
 rw [h.2.1 k hk j hj]
 match j,hj with
 | 0,_=>rfl
 | 1,_=>rfl
 | 2,_=>rfl
 | 3,_=>rfl
 | 4,_=>rfl
 | 5,_=>rfl
 | 6,_=>rfl
theorem MRow.free (h:MRow W q n f) (m:Nat):W.frozen? ⟨q,m,none⟩=false∧W.frozen? ⟨q,m+1,none⟩=false∧W.frozen? ⟨q,m+2,none⟩=false∧W.frozen? ⟨q,m+3,none⟩=false∧W.frozen? ⟨q,m+4,none⟩=false∧W.frozen? ⟨q,m+5,none⟩=false∧W.frozen? ⟨q,m+6,none⟩=false:=
 ⟨h.2.2 _,h.2.2 _,h.2.2 _,h.2.2 _,h.2.2 _,h.2.2 _,h.2.2 _⟩
theorem MRow.c7 (h:MRow W q n f) {k:Nat} (hk:k<n):C7 W q (k*7) (f k):=by
 have g:=h.2.1 k hk
 exact ⟨g 0 (by omega),g 1 (by omega),g 2 (by omega),g 3 (by omega),g 4 (by omega),g 5 (by omega),g 6 (by omega)⟩
theorem sets_below {B:Nat} {a:World} {b:Nat} (hb:B≤b):∀ (vs:List Value) (m:Nat) (W:World),Below B a W→Below B a (W.setCells b m vs)
 | [],_,_,h=>h
 | v::r,m,W,h=>sets_below hb r (m+1) _ (h.setCell (p:=⟨b,m,none⟩) hb v)
theorem sets_size (b:Nat):∀ (vs:List Value) (m:Nat) (W:World),(W.setCells b m vs).heap.size=W.heap.size
 | [],_,_=>rfl
 | v::r,m,W=>by rw [World.setCells,sets_size b r];simp
theorem sets_far {p:Addr} (hp:p.block≠q) (m:Nat) (vs:List Value):(W.setCells q m vs).cell? p=W.cell? p:=
 World.cell?_setCells_out q vs m W p (fun e=>absurd e hp)
theorem MRow.put (h:MRow W q n f) {k:Nat} (hk:k<n) (M:Msg):MRow (W.setCells q (k*7) M.l) q n (fun i=>if i=k then M else f i):=by
 refine ⟨by rw [sets_size];exact h.1,fun i hi j hj=>?_,fun o=>by rw [World.frozen?_setCells];exact h.2.2 o⟩
 by_cases e:i=k
 ·subst e
  simp only [if_true]
  rw [World.cell?_setCells_in q M.l (i*7) W (fun j hj=>(h.there hk j hj).1) j hj,List.getElem?_eq_getElem]
  rfl
 ·simp only [if_neg e]
  rw [←h.2.1 i hi j hj]
  exact World.cell?_setCells_out q M.l (k*7) W ⟨q,i*7+j,none⟩ (fun _ _=>by rw [Msg.l_len];show i*7+j<k*7∨k*7+7≤i*7+j;omega)
abbrev set7 (W:World) (q m:Nat) (M:Msg):World:=((((((W.setCell ⟨q,m,none⟩ (.int .i64 M.id)).setCell ⟨q,m+1,none⟩ (.int .i64 M.rt)).setCell ⟨q,m+2,none⟩ (.int .i64 M.ep)).setCell ⟨q,m+3,none⟩ (.int .i64 M.ct)).setCell ⟨q,m+4,none⟩ (.int .i64 M.gn)).setCell ⟨q,m+5,none⟩ (.int .i64 M.st)).setCell ⟨q,m+6,none⟩ (.string M.bd)
theorem MRow.ls (h:MRow W q n f) (x cap:Nat) (hx:x≤n) (hc:x≤cap) (hm:cap≤maxLen):Ls W W.heap.size (.slice (some ⟨q,0,none⟩) x cap) ((List.range x).map f):=by
 have hl:((List.range x).map f).length=x:=by simp
 refine ⟨_,cap,by rw [hl],by rw [hl];exact hc,hm,by rw [lcs_len,hl],fun _=>⟨q,0,rfl,h.1,fun i u hu=>?_⟩⟩
 have hi:i<x*7:=by have:=(List.getElem?_eq_some_iff.1 hu).1;rw [lcs_len,hl] at this;exact this
 have e:i=i / 7*7+i % 7:=by omega
 have hlt:i / 7<x:=by omega
 rw [e] at hu ⊢
 rw [lcs_at _ _ _ (by rw [hl];exact hlt) (by omega)] at hu
 rw [Nat.zero_add,h.2.1 _ (by omega) _ (by omega),←hu]
 simp
end
theorem MRow.made (w:World) (n:Nat) (t:TypeId):MRow (w.alloc (.cells (madeCells (Msg.v zM).cells (n*7)) t)) w.heap.size n (fun _=>zM):=by
 refine ⟨by simp,fun k hk j hj=>?_,fun o=>by simp [go_sem]⟩
 rw [World.cell?_alloc_new]
 have hs:(Msg.v zM).cells.size=7:=rfl
 simp only [madeCells,Array.getElem?_map,hs]
 rw [Array.getElem?_range,if_pos (by omega)]
 have e:(k*7+j) % 7=j:=by omega
 simp only [Option.map_some,e]
 match j,hj with
 | 0,_=>rfl
 | 1,_=>rfl
 | 2,_=>rfl
 | 3,_=>rfl
 | 4,_=>rfl
 | 5,_=>rfl
 | 6,_=>rfl
theorem Ls.off {W:World} {B lo n c:Nat} {A:Option Addr} {l:List Msg} (h:Ls W B (.slice A n c) l) (hA:Nw lo A) {p:Addr} (hp:p.block<lo) (v:Value):Ls (W.setCell p v) B (.slice A n c) l:=by
 obtain ⟨A',c',e,hl,hm,hr⟩:=h
 injection e with e1 e2 e3
 subst e1;subst e3
 refine ⟨A,c,by rw [e2],hl,hm,hr.1,fun h0=>?_⟩
 obtain ⟨b,o,e,hb,hc⟩:=hr.2 h0
 have hlo:=hA _ e
 exact ⟨b,o,e,hb,fun j u hu=>(World.cell?_setCell_other W _ _ v (fun e'=>by have e2:=congrArg Addr.block e';simp at e2 hlo;omega)).trans (hc j u hu)⟩
end Go.Proofs.YtncgbldcjfbknaaGreat
