/- What is proved here: parts of the proof: Ixd Nwd Lrd Rgd Rga Rgo. -/
import Derived.Test.YtkecnihgjepfeaaGreatJ02
import Derived.Laws.MakeOwn
import Derived.RegionTactic
import Derived.Deep.RegionWith
namespace Go.Proofs.YtkecnihgjepfeaaGreat
open Go.RowKit
set_option linter.unusedVariables false
set_option linter.unusedSimpArgs false
set_option maxHeartbeats 8000000
set_option maxRecDepth 20000
def ixN (l:List Msg) (id:Int):Nat:=l.findIdx (fun M=>M.id==id)
def ixF (l:List Msg) (id:Int):Int:=if ixN l id<l.length then (ixN l id:Int) else -1
theorem ixF_hit {l:List Msg} {id:Int} {k:Nat} (hk:k<l.length) (h:l[k].id=id) (hn:∀ j (hj:j<l.length),j<k->l[j].id≠id):ixF l id=k:=by
 have e:ixN l id=k:=(List.findIdx_eq hk).2 ⟨by simpa using h,fun j hj=>by simpa using hn j (by omega) hj⟩
 unfold ixF
 rw [e,if_pos hk]
theorem ixF_none {l:List Msg} {id:Int} (hn:∀ j (hj:j<l.length),l[j].id≠id):ixF l id = -1:=by
 unfold ixF
 rw [if_neg]
 intro h
 have:=List.findIdx_getElem (w:=h)
 have this' : l[ixN l id].id=id:=beq_iff_eq.1 this
 exact hn _ h this'
theorem ixF_cases (l:List Msg) (id:Int):(ixF l id = -1/\∀ j (hj:j<l.length),l[j].id≠id)\/∃ k,∃ hk:k<l.length,ixF l id=k/\l[k].id=id/\∀ j (hj:j<l.length),j<k->l[j].id≠id:=by
 by_cases h:∀ j (hj:j<l.length),l[j].id≠id
 ·exact .inl ⟨ixF_none h,h⟩
 ·right
  have hl:ixN l id<l.length:=by
   apply Decidable.byContradiction
   intro hc
   have e:ixN l id=l.length:=Nat.le_antisymm List.findIdx_le_length (by omega)
   exact h fun j hj hid=>by
    have:=(List.findIdx_eq_length.1 e) l[j] (List.getElem_mem hj)
    simp [hid] at this
  refine ⟨ixN l id,hl,by unfold ixF;rw [if_pos hl],beq_iff_eq.1 (List.findIdx_getElem (p:=fun M:Msg=>M.id==id) (w:=hl)),fun j hj hlt=>?_⟩
  have:=List.not_of_lt_findIdx hlt
  simpa using this
theorem ixF_ge (l:List Msg) (id:Int):0<=ixF l id↔∃ M∈l,M.id=id:=by
 rcases ixF_cases l id with ⟨e,h⟩ | ⟨k,hk,e,hi,_⟩
 ·rw [e]
  refine ⟨fun h=>absurd h (by omega),fun ⟨M,hM,hid⟩=>?_⟩
  obtain ⟨j,hj,rfl⟩:=List.getElem_of_mem hM
  exact absurd hid (h j hj)
 ·rw [e]
  exact ⟨fun _=>⟨l[k],List.getElem_mem hk,hi⟩,fun _=>by omega⟩
theorem ixF_lt (l:List Msg) (id:Int):-1<=ixF l id/\ixF l id<l.length:=by
 rcases ixF_cases l id with ⟨e,h⟩ | ⟨k,hk,e,hi,_⟩ <;> rw [e] <;> omega
def Nw (lo:Nat) (A:Option Addr):Prop:=∀ a,A=some a->lo<=a.block
theorem nw_none {lo:Nat}:Nw lo none:=fun a h=>by cases h
theorem nw_some {lo b o:Nat} (h:lo<=b):Nw lo (some ⟨b,o,none⟩):=fun a e=>by injection e with e;subst e;exact h
theorem nw_low {lo lo' : Nat} {A:Option Addr} (h:Nw lo A) (hl:lo'<=lo):Nw lo' A:=fun a e=>Nat.le_trans hl (h a e)
def NwV (lo:Nat) (v:Value):Prop:=∀ A n c,v=.slice A n c->Nw lo A
theorem nwv_mk {lo n c:Nat} {A:Option Addr} (h:Nw lo A):NwV lo (.slice A n c):=fun A' n' c' e=>by injection e with e1 _ _;subst e1;exact h
theorem nwv_of {lo n c:Nat} {A:Option Addr} (h:NwV lo (.slice A n c)):Nw lo A:=h _ _ _ rfl
theorem nwv_low {lo lo' : Nat} {v:Value} (h:NwV lo v) (hl:lo'<=lo):NwV lo' v:=fun A n c e=>nw_low (h A n c e) hl
theorem nwv_own {W:World} {base lo n size:Nat} {e:TypeId} {v:Value} {xs:List Value} (h:W.ownsRow base e size v n xs) (hl:lo<=base):NwV lo v:=by
 rcases h.2 with ⟨hv,_⟩ | ⟨g,cap,cur,hv,hg,_⟩
 ·subst hv;exact nwv_mk nw_none
 ·subst hv;exact nwv_mk (nw_some (by omega))
def MRow (W:World) (q n:Nat) (f:Nat->Msg):Prop:=q<W.heap.size/\(∀ k,k<n->∀ j,j<7->W.cell? ⟨q,k*7+j,none⟩=(f k).l[j]?)/\∀ o,W.frozen? ⟨q,o,none⟩=false
section
variable {W W' : World} {q n:Nat} {f g:Nat->Msg}
theorem MRow.below {B:Nat} (h:MRow W q n f) (hb:Below B W W') (hg:q<B):MRow W' q n f:=
 ⟨Nat.lt_of_lt_of_le h.1 hb.size,fun k hk j hj=>(hb.cell (p:=⟨q,k*7+j,none⟩) hg).trans (h.2.1 k hk j hj),fun o=>(hb.frozen (p:=⟨q,o,none⟩) hg).trans (h.2.2 o)⟩
theorem MRow.congr (h:MRow W q n f) (e:∀ k,k<n->f k=g k):MRow W q n g:=
 ⟨h.1,fun k hk j hj=>by rw [h.2.1 k hk j hj,e k hk],h.2.2⟩
theorem MRow.there (h:MRow W q n f) {k:Nat} (hk:k<n):W.there q (k*7) 7:=fun j hj=>by
 refine ⟨?_,h.2.2 _⟩
 rw [h.2.1 k hk j hj]
 match j,hj with
 | 0,_=>rfl
 | 1,_=>rfl
 | 2,_=>rfl
 | 3,_=>rfl
 | 4,_=>rfl
 | 5,_=>rfl
 | 6,_=>rfl
theorem MRow.free (h:MRow W q n f) (m:Nat):W.frozen? ⟨q,m,none⟩=false/\W.frozen? ⟨q,m+1,none⟩=false/\W.frozen? ⟨q,m+2,none⟩=false/\W.frozen? ⟨q,m+3,none⟩=false/\W.frozen? ⟨q,m+4,none⟩=false/\W.frozen? ⟨q,m+5,none⟩=false/\W.frozen? ⟨q,m+6,none⟩=false:=
 ⟨h.2.2 _,h.2.2 _,h.2.2 _,h.2.2 _,h.2.2 _,h.2.2 _,h.2.2 _⟩
theorem MRow.c7 (h:MRow W q n f) {k:Nat} (hk:k<n):C7 W q (k*7) (f k):=by
 have g:=h.2.1 k hk
 exact ⟨g 0 (by omega),g 1 (by omega),g 2 (by omega),g 3 (by omega),g 4 (by omega),g 5 (by omega),g 6 (by omega)⟩
theorem sets_below {B:Nat} {a:World} {b:Nat} (hb:B<=b):∀ (vs:List Value) (m:Nat) (W:World),Below B a W->Below B a (W.setCells b m vs)
 | [],_,_,h=>h
 | v::r,m,W,h=>sets_below hb r (m+1) _ (h.setCell (p:=⟨b,m,none⟩) hb v)
theorem sets_size (b:Nat):∀ (vs:List Value) (m:Nat) (W:World),(W.setCells b m vs).heap.size=W.heap.size
 | [],_,_=>rfl
 | v::r,m,W=>by rw [World.setCells,sets_size b r];simp
theorem sets_far {p:Addr} (hp:p.block≠q) (m:Nat) (vs:List Value):(W.setCells q m vs).cell? p=W.cell? p:=
 World.cell?_setCells_out q vs m W p (fun e=>absurd e hp)
theorem MRow.put (h:MRow W q n f) {k:Nat} (hk:k<n) (M:Msg):MRow (W.setCells q (k*7) M.l) q n (fun i=>if i=k then M else f i):=by
 refine ⟨by rw [sets_size];exact h.1,fun i hi j hj=>?_,fun o=>by rw [World.frozen?_setCells];exact h.2.2 o⟩
 by_cases e:i=k
 ·subst e
  simp only [if_true]
  rw [World.cell?_setCells_in q M.l (i*7) W (fun j hj=>(h.there hk j hj).1) j hj,List.getElem?_eq_getElem]
  rfl
 ·simp only [if_neg e]
  rw [<-h.2.1 i hi j hj]
  exact World.cell?_setCells_out q M.l (k*7) W ⟨q,i*7+j,none⟩ (fun _ _=>by rw [Msg.l_len];show i*7+j<k*7\/k*7+7<=i*7+j;omega)
theorem MRow.ls (h:MRow W q n f) (x cap:Nat) (hx:x<=n) (hc:x<=cap) (hm:cap<=maxLen):Ls W W.heap.size (.slice (some ⟨q,0,none⟩) x cap) ((List.range x).map f):=by
 have hl:((List.range x).map f).length=x:=by simp
 refine ⟨_,cap,by rw [hl],by rw [hl];exact hc,hm,by rw [lcs_len,hl],fun _=>⟨q,0,rfl,h.1,fun i u hu=>?_⟩⟩
 have hi:i<x*7:=by have:=(List.getElem?_eq_some_iff.1 hu).1;rw [lcs_len,hl] at this;exact this
 have e:i=i / 7*7+i % 7:=by omega
 have hlt:i / 7<x:=by omega
 rw [e] at hu ⊢
 rw [lcs_at _ _ _ (by rw [hl];exact hlt) (by omega)] at hu
 rw [Nat.zero_add,h.2.1 _ (by omega) _ (by omega),<-hu]
 simp
end
theorem MRow.made (w:World) (n:Nat) (t:TypeId):MRow (w.alloc (.cells (madeCells (Msg.v zM).cells (n*7)) t)) w.heap.size n (fun _=>zM):=by
 refine ⟨by simp,fun k hk j hj=>?_,fun o=>by simp [go_sem]⟩
 rw [World.cell?_alloc_new]
 have hs:(Msg.v zM).cells.size=7:=rfl
 simp only [madeCells,Array.getElem?_map,hs]
 rw [Array.getElem?_range,if_pos (by omega)]
 have e:(k*7+j) % 7=j:=by omega
 simp only [Option.map_some,e]
 match j,hj with
 | 0,_=>rfl
 | 1,_=>rfl
 | 2,_=>rfl
 | 3,_=>rfl
 | 4,_=>rfl
 | 5,_=>rfl
 | 6,_=>rfl
def nmB (n:Nat) (hd sz:Int):Bool:=wi n 1 12&&(wi hd 0 ((n:Int) - 1)&&wi sz 0 n)
theorem nm_of {n:Nat} {hd sz:Int} (h:nmB n hd sz=true):(1<=n/\n<=12)/\(0<=hd/\hd<n)/\(0<=sz/\sz<=n):=by
 unfold nmB at h
 simp only [Bool.and_eq_true] at h
 have h0:=wi_of h.1
 have h1:=wi_of h.2.1
 have h2:=wi_of h.2.2
 omega
theorem nm_mk {n:Nat} {hd sz:Int} (h:(1<=n/\n<=12)/\(0<=hd/\hd<n)/\(0<=sz/\sz<=n)):nmB n hd sz=true:=by
 unfold nmB
 rw [wi_true (by omega) (by omega),wi_true (by omega) (by omega),wi_true (by omega) (by omega)]
 rfl
def cel (cs:List Msg) (hd:Nat) (k:Nat):Msg:=cs.getD ((hd+k) % cs.length) zM
def ord (cs:List Msg) (hd sz:Nat):List Msg:=(List.range sz).map (cel cs hd)
theorem ord_len (cs:List Msg) (hd sz:Nat):(ord cs hd sz).length=sz:=by simp [ord]
theorem ord_at (cs:List Msg) (hd sz k:Nat) (h:k<(ord cs hd sz).length):(ord cs hd sz)[k]=cel cs hd k:=by simp [ord]
def fe:List Msg->Int
 | []=>0
 | M::l=>if vf M=0 then fe l else vf M
theorem fe_all {l:List Msg} (h:∀ M∈l,vf M=0):fe l=0:=by
 induction l with
 | nil=>rfl
 | cons M l ih=>rw [fe,if_pos (h M (by simp)),ih (fun N hN=>h N (by simp [hN]))]
theorem fe_hit {l:List Msg} {k:Nat} (hk:k<l.length) (hn:∀ j (hj:j<l.length),j<k->vf l[j]=0) (h:vf l[k]≠0):fe l=vf l[k]:=by
 induction l generalizing k with
 | nil=>simp at hk
 | cons M l ih=>
  cases k with
  | zero=>rw [fe,if_neg (by simpa using h)];rfl
  | succ k=>
   rw [fe,if_pos (show vf M=0 from hn 0 (by simp) (by omega))]
   exact ih (by simpa using hk) (fun j hj hlt=>hn (j+1) (by simpa using hj) (by omega)) (by simpa using h)
theorem fe_zero {l:List Msg} (h:fe l=0):∀ M∈l,vf M=0:=by
 induction l with
 | nil=>simp
 | cons M l ih=>
  rw [fe] at h
  by_cases e:vf M=0
  ·rw [if_pos e] at h
   intro N hN
   rcases List.mem_cons.1 hN with rfl | hN
   ·exact e
   ·exact ih h N hN
  ·rw [if_neg e] at h;exact absurd h e
def dupP (l:List Msg):Prop:=∃ (i j:Nat) (hi:i<l.length) (hj:j<l.length),i<j/\l[i].id=l[j].id
open Classical in
noncomputable def rgV (cs:List Msg) (hd sz:Int):Int:=
 if nmB cs.length hd sz=false then 1
 else if ¬(∀ k,sz.toNat<=k->k<cs.length->cel cs hd.toNat k=zM) then 7
 else if fe (ord cs hd.toNat sz.toNat)≠0 then fe (ord cs hd.toNat sz.toNat)
 else if dupP (ord cs hd.toNat sz.toNat) then 10 else 0
section
variable {cs:List Msg} {hd sz:Int}
theorem rgV_num (h:nmB cs.length hd sz=false):rgV cs hd sz=1:=if_pos h
theorem rgV_free (h:nmB cs.length hd sz=true) (h1:¬(∀ k,sz.toNat<=k->k<cs.length->cel cs hd.toNat k=zM)):rgV cs hd sz=7:=by
 unfold rgV;rw [if_neg (by simp [h]),if_pos h1]
theorem rgV_msg (h:nmB cs.length hd sz=true) (h1:∀ k,sz.toNat<=k->k<cs.length->cel cs hd.toNat k=zM) (h2:fe (ord cs hd.toNat sz.toNat)≠0):rgV cs hd sz=fe (ord cs hd.toNat sz.toNat):=by
 unfold rgV;rw [if_neg (by simp [h]),if_neg (by simpa using h1),if_pos h2]
theorem rgV_dup (h:nmB cs.length hd sz=true) (h1:∀ k,sz.toNat<=k->k<cs.length->cel cs hd.toNat k=zM) (h2:fe (ord cs hd.toNat sz.toNat)=0) (h3:dupP (ord cs hd.toNat sz.toNat)):rgV cs hd sz=10:=by
 unfold rgV;rw [if_neg (by simp [h]),if_neg (by simpa using h1),if_neg (by simp [h2]),if_pos h3]
theorem rgV_ok (h:nmB cs.length hd sz=true) (h1:∀ k,sz.toNat<=k->k<cs.length->cel cs hd.toNat k=zM) (h2:fe (ord cs hd.toNat sz.toNat)=0) (h3:¬dupP (ord cs hd.toNat sz.toNat)):rgV cs hd sz=0:=by
 unfold rgV;rw [if_neg (by simp [h]),if_neg (by simpa using h1),if_neg (by simp [h2]),if_neg h3]
theorem rgV_zero (h:rgV cs hd sz=0):nmB cs.length hd sz=true/\(∀ k,sz.toNat<=k->k<cs.length->cel cs hd.toNat k=zM)/\fe (ord cs hd.toNat sz.toNat)=0/\¬dupP (ord cs hd.toNat sz.toNat):=by
 cases h0:nmB cs.length hd sz with
 | false=>rw [rgV_num h0] at h;exact absurd h (by decide)
 | true=>
  by_cases h1:∀ k,sz.toNat<=k->k<cs.length->cel cs hd.toNat k=zM
  ·by_cases h2:fe (ord cs hd.toNat sz.toNat)=0
   ·by_cases h3:dupP (ord cs hd.toNat sz.toNat)
    ·rw [rgV_dup h0 h1 h2 h3] at h;exact absurd h (by decide)
    ·exact ⟨rfl,h1,h2,h3⟩
   ·rw [rgV_msg h0 h1 h2] at h;exact absurd h h2
  ·rw [rgV_free h0 h1] at h;exact absurd h (by decide)
end
def fil (n hd:Nat) (l:List Msg):List Msg:=(List.range n).map fun j=>l.getD ((j+n - hd) % n) zM
theorem fil_len (n hd:Nat) (l:List Msg):(fil n hd l).length=n:=by simp [fil]
theorem cel_fil {n hd k:Nat} (l:List Msg) (hh:hd<n) (hk:k<n):cel (fil n hd l) hd k=l.getD k zM:=by
 unfold cel
 rw [fil_len]
 have hm:(hd+k) % n<n:=Nat.mod_lt _ (by omega)
 have e:((hd+k) % n+n - hd) % n=k:=by
  rcases Nat.lt_or_ge (hd+k) n with h | h
  ·rw [Nat.mod_eq_of_lt h,show hd+k+n - hd=k+n by omega,Nat.add_mod_right,Nat.mod_eq_of_lt hk]
  ·rw [Nat.mod_eq_sub_mod h,Nat.mod_eq_of_lt (show hd+k - n<n by omega),show hd+k - n+n - hd=k by omega,Nat.mod_eq_of_lt hk]
 simp [fil,List.getD,hm,e]
theorem ord_fil {n hd:Nat} (l:List Msg) (hh:hd<n) (hl:l.length<=n):ord (fil n hd l) hd l.length=l:=by
 apply List.ext_getElem
 ·rw [ord_len]
 ·intro k h1 h2
  rw [ord_at,cel_fil l hh (by omega)]
  simp [List.getD,h2]
theorem cel_ext {cs ds:List Msg} {hd:Nat} (hl:cs.length=ds.length) (hh:hd<cs.length) (h:∀ k,k<cs.length->cel cs hd k=cel ds hd k):cs=ds:=by
 apply List.ext_getElem hl
 intro j h1 h2
 have g:=h ((j+cs.length - hd) % cs.length) (Nat.mod_lt _ (by omega))
 have e:(hd+(j+cs.length - hd) % cs.length) % cs.length=j:=by
  rcases Nat.lt_or_ge j hd with hj | hj
  ·rw [Nat.mod_eq_of_lt (show j+cs.length - hd<cs.length by omega),show hd+(j+cs.length - hd)=j+cs.length by omega,Nat.add_mod_right,Nat.mod_eq_of_lt h1]
  ·rw [show j+cs.length - hd=(j - hd)+cs.length by omega,Nat.add_mod_right,Nat.mod_eq_of_lt (show j - hd<cs.length by omega),show hd+(j - hd)=j by omega,Nat.mod_eq_of_lt h1]
 unfold cel at g
 rw [<-hl,e] at g
 simpa [List.getD,h1,h2] using g
theorem fil_ord {cs:List Msg} {hd sz:Nat} (hh:hd<cs.length) (hz:∀ k,sz<=k->k<cs.length->cel cs hd k=zM):fil cs.length hd (ord cs hd sz)=cs:=by
 refine cel_ext (hd:=hd) (fil_len _ _ _) (by rw [fil_len];exact hh) fun k hk=>?_
 rw [fil_len] at hk
 rw [cel_fil _ hh hk]
 by_cases h:k<sz
 ·simp [List.getD,ord,h]
 ·rw [hz k (by omega) hk]
  simp [List.getD,ord,h]
theorem place_any (A:Option Addr) (n c:Nat) (hd sz i:Int) (h0:0<=hd) (h1:hd<=100) (i0:0<=i) (i1:i<=100) (n0:0<n) (n1:n<=100) (w:World) :
  Calls Tryz.prog 184 #[.agg #[.slice A n c,.int .i64 hd,.int .i64 sz],.int .i64 i] w fun e w'=>e=.returned (.int .i64 ((hd+i) % (n:Int)))/\Below w.heap.size w w':=by
 have HB:=Lh ((Below.refl w.heap.size w).alloc (nLR _) (.cells #[.slice A n c,.int .i64 hd,.int .i64 sz] 66))
 have n0' : (0:Int)<(n:Int):=by omega
 have n1' : (n:Int)<=100:=by omega
 go_enter Tryz.func184,Tryz.ntmps184
 go_wp2
 go_ret
 exact ⟨rfl,HB.out⟩
theorem gwithin_any (n lo hi:Int) (w:World):Calls Tryz.prog 108 #[.int .i64 n,.int .i64 lo,.int .i64 hi] w fun e w'=>e=.returned (.bool (wi n lo hi))/\w=w':=by
 by_cases h1:lo<=n
 ·by_cases h2:n<=hi
  ·have H:=Lh (wi_true h1 h2)
   go_enter Tryz.func108,Tryz.ntmps108
   go_wp2
   go_ret
   exact ⟨by rw [H.out];rfl,rfl⟩
  ·have H:=Lh (wi_high (lo:=lo) (show hi<n by omega))
   go_enter Tryz.func108,Tryz.ntmps108
   go_wp2
   go_ret
   exact ⟨by rw [H.out];rfl,rfl⟩
 ·have H:=Lh (wi_low (hi:=hi) (show n<lo by omega))
  go_enter Tryz.func108,Tryz.ntmps108
  go_wp2
  go_ret
  exact ⟨by rw [H.out];rfl,rfl⟩
theorem info_msg:(Tryz.prog.info? 79).map (fun i=>(i.zero,i.size,i.bytes))=some (some (Msg.v zM),7,64):=by kernel_rfl
theorem run_make_msgs (n:Nat) (h:n<=1000000) (w:World):(Instr.makeSlice 27 (.int .i64 n) (.int .i64 n)).run Tryz.prog w=.ok (.slice (some ⟨w.heap.size,0,none⟩) n n) (w.alloc (.cells (madeCells (Msg.v zM).cells (n*7)) 79)):=by
 obtain ⟨i,hi,hz⟩:=Option.map_eq_some_iff.1 info_msg
 simp only [Prod.mk.injEq] at hz
 have:=run_make w 27 79 i (Msg.v zM) Tryz.underlying27 hi hz.1 .i64 .i64 n n (by omega) (by omega) (by rw [hz.2.2];omega) (by omega)
 rw [hz.2.1] at this
 simpa using this
def LsP (l:List Msg) (w:World) (e:Ending) (w' : World):Prop:=∃ v,e=.returned v/\NwV w.heap.size v/\Ls w' w'.heap.size v l/\Below w.heap.size w w'
structure OrdAt (w:World) (p:Nat) (A:Option Addr) (n c:Nat) (hd sz:Int) (q m:Nat) (f:Nat->Msg) (W:World):Prop where
 c0:W.cell? ⟨p,0,none⟩=some (.slice A n c)
 c1:W.cell? ⟨p,1,none⟩=some (.int .i64 hd)
 c2:W.cell? ⟨p,2,none⟩=some (.int .i64 sz)
 row:MRow W q m f
 bel:Below w.heap.size w W
 old:w.heap.size<=p/\p<q
section
variable {w W W' : World} {p q n c m:Nat} {A:Option Addr} {hd sz:Int} {f:Nat->Msg}
theorem OrdAt.facts (h:OrdAt w p A n c hd sz q m f W):W.cell? ⟨p,0,none⟩=some (.slice A n c)/\W.cell? ⟨p,1,none⟩=some (.int .i64 hd)/\W.cell? ⟨p,2,none⟩=some (.int .i64 sz)/\p<W.heap.size/\q<W.heap.size:=
 ⟨h.c0,h.c1,h.c2,Nat.lt_trans h.old.2 h.row.1,h.row.1⟩
theorem OrdAt.below (h:OrdAt w p A n c hd sz q m f W) (hb:Below W.heap.size W W'):OrdAt w p A n c hd sz q m f W':=
 ⟨(hb.cell (p:=⟨p,0,none⟩) (Nat.lt_trans h.old.2 h.row.1)).trans h.c0,(hb.cell (p:=⟨p,1,none⟩) (Nat.lt_trans h.old.2 h.row.1)).trans h.c1,(hb.cell (p:=⟨p,2,none⟩) (Nat.lt_trans h.old.2 h.row.1)).trans h.c2,h.row.below hb h.row.1,h.bel.trans (hb.mono h.bel.size),h.old⟩
theorem OrdAt.put (h:OrdAt w p A n c hd sz q m f W) {k:Nat} (hk:k<m) (M:Msg):OrdAt w p A n c hd sz q m (fun i=>if i=k then M else f i) (W.setCells q (k*7) M.l):=by
 have hne:p≠q:=by have:=h.old.2;omega
 exact ⟨(sets_far (p:=⟨p,0,none⟩) hne _ _).trans h.c0,(sets_far (p:=⟨p,1,none⟩) hne _ _).trans h.c1,(sets_far (p:=⟨p,2,none⟩) hne _ _).trans h.c2,h.row.put hk M,sets_below (by have:=h.old;omega) _ _ _ h.bel,h.old⟩
theorem OrdAt.start (w:World) (A:Option Addr) (n c:Nat) (hd sz:Int) (m:Nat) (t u:TypeId):OrdAt w w.heap.size A n c hd sz (w.heap.size+1) m (fun _=>zM) ((w.alloc (.cells #[.slice A n c,.int .i64 hd,.int .i64 sz] t)).alloc (.cells (madeCells (Msg.v zM).cells (m*7)) u)):=by
 have h:=MRow.made (w.alloc (.cells #[.slice A n c,.int .i64 hd,.int .i64 sz] t)) m u
 have e:(w.alloc (.cells #[.slice A n c,.int .i64 hd,.int .i64 sz] t)).heap.size=w.heap.size+1:=by simp
 rw [e] at h
 refine ⟨?_,?_,?_,h,((Below.refl _ _).alloc (nLR _) _).alloc (by omega) _,nLR _,Nat.lt_succ_self _⟩
 all_goals
  rw [World.cell?_alloc_past _ _ _ (by omega)]
  simp [go_sem]
theorem OrdAt.finish (h:OrdAt w p A n c hd sz q m f W) {l:List Msg} (hl:(List.range m).map f=l) (cap:Nat) (hx:m<=m) (hc:m<=cap) (hm:cap<=maxLen):Ls W W.heap.size (.slice (some ⟨q,0,none⟩) m cap) l/\Below w.heap.size w W:=
 ⟨by rw [<-hl];exact h.row.ls m cap (nLR _) hc hm,h.bel⟩
theorem drew_below {B:Nat} {a w:World} (h:Below B a.drew w):Below B a w:=⟨h.os,h.tape,h.output,h.size,h.block⟩
theorem OrdAt.congr {g:Nat->Msg} (h:OrdAt w p A n c hd sz q m f W) (e:∀ k,k<m->f k=g k):OrdAt w p A n c hd sz q m g W:=
 ⟨h.c0,h.c1,h.c2,h.row.congr e,h.bel,h.old⟩
end
theorem OrdAt.step {w W W' : World} {p q n c m b o k:Nat} {A:Option Addr} {hd sz:Int} {f:Nat->Msg} {X:Msg} (h:OrdAt w p A n c hd sz q m f W) (hk:k<m) (hc:C7 W b o X) (hbw:b<W.heap.size) (hb:Below W.heap.size W W') :
  Hid (OrdAt w p A n c hd sz q m f W')/\(W'.cell? ⟨p,0,none⟩=some (.slice A n c)/\W'.cell? ⟨p,1,none⟩=some (.int .i64 hd)/\W'.cell? ⟨p,2,none⟩=some (.int .i64 sz)/\p<W'.heap.size/\q<W'.heap.size)/\C7 W' b o X/\C7 W' q (k*7) (f k)/\
   (W'.frozen? ⟨q,k*7,none⟩=false/\W'.frozen? ⟨q,k*7+1,none⟩=false/\W'.frozen? ⟨q,k*7+2,none⟩=false/\W'.frozen? ⟨q,k*7+3,none⟩=false/\W'.frozen? ⟨q,k*7+4,none⟩=false/\W'.frozen? ⟨q,k*7+5,none⟩=false/\W'.frozen? ⟨q,k*7+6,none⟩=false):=
 ⟨Lh (h.below hb),(h.below hb).facts,hc.below hb hbw,(h.below hb).row.c7 hk,(h.below hb).row.free _⟩
theorem cel_get {cs:List Msg} {hd k:Nat} (hn:0<cs.length) (m:Nat) (hm:m=(hd+k) % cs.length) (hlt:m<cs.length):cs[m]=cel cs hd k:=by
 subst hm
 simp [cel,List.getD,hlt]
theorem ordered_any (A:Option Addr) (n c:Nat) (cs:List Msg) (hd sz:Nat) (w:World) (hv:Ls w w.heap.size (.slice A n c) cs) (hn:nmB cs.length hd sz=true) :
  Calls Tryz.prog 166 #[.agg #[.slice A n c,.int .i64 hd,.int .i64 sz]] w (LsP (ord cs hd sz) w):=by
 obtain ⟨rfl,hm1,hm2⟩:=hv.len
 obtain ⟨⟨n1,n2⟩,⟨h1,h2⟩,⟨s1,s2⟩⟩:=nm_of hn
 have hmk:=run_make_msgs sz (by omega)
 have HV:=Lh hv
 clear hv hn
 go_enter Tryz.func166,Tryz.ntmps166
 go_wp2
 have HS:=Lh (OrdAt.start w A cs.length c hd sz sz 66 79)
 obtain ⟨p,hp⟩:∃ p,p=w.heap.size:=⟨_,rfl⟩
 obtain ⟨q,hq⟩:∃ q,q=w.heap.size+1:=⟨_,rfl⟩
 rw [<-hq,<-hp] at HS ⊢
 have HPP:=Lh hp
 clear hmk hp hq
 go_loopw [10] (fun i wr=>∃ k:Nat,k<=sz/\i=.int .i64 k/\OrdAt w p A cs.length c hd sz q sz (fun j=>if j<k then cel cs hd j else zM) wr) (fun i _=>sz - (intOf i).toNat)
 case atStart=>exact ⟨0,by omega,rfl,HS.out.congr fun j _=>by simp⟩
 case round=>
  obtain ⟨k,hk,rfl,hrel⟩:=hrel
  have HR:=Lh hrel
  have HVK:=Lh (HV.out.below hrel.bel)
  clear hrel
  by_cases hlt:k<sz
  ·obtain ⟨m,hm⟩:∃ m,m=(hd+k) % cs.length:=⟨_,rfl⟩
   have hml:m<cs.length:=by rw [hm];exact Nat.mod_lt _ (by omega)
   have HX:=Lh (cel_get (by omega) m hm hml)
   have HPL:=Lh (fun w=>place_any A cs.length c hd sz k (by omega) (by omega) (by omega) (by omega) (by omega) (by omega) w)
   have hmi:((hd:Int)+(k:Int)) % (cs.length:Int)=(m:Int):=by rw [hm];simp
   rw [hmi] at HPL
   obtain ⟨b,o,rfl,hb,hc⟩:=HVK.out.at_ hml
   generalize cs[m]=X at*
   clear hm hmi
   obtain ⟨r0,r1,r2,hpl,hql⟩:=HR.out.facts
   have HC7:=Lh hc
   clear hc
   have hbw:b<wr.heap.size:=by have:=HPP.out;omega
   go_wp2
   have HST:=Lh (fun w1 (hb1:Below wr.drew.heap.size wr.drew w1)=>OrdAt.step (X:=X) HR.out hlt HC7.out hbw (drew_below hb1))
   have hzz:(if k<k then cel cs hd k else zM)=zM:=if_neg (by omega)
   simp only [hzz] at HST
   clear hzz
   go_region_with ((go_at_call 184;refine (HPL.out _).mono ?_;rintro e w1 ⟨rfl,hb1⟩;obtain ⟨HR1,⟨x0,x1,x2,hpl1,hql1⟩,⟨d0,d1,d2,d3,d4,d5,d6⟩,⟨z0,z1,z2,z3,z4,z5,z6⟩,⟨y0,y1,y2,y3,y4,y5,y6⟩⟩:=HST.out _ hb1;clear hb1))
   all_goals
    have HP:=Lh (HR1.out.put hlt X)
    clear d0 d1 d2 d3 d4 d5 d6 z0 z1 z2 z3 z4 z5 z6 y0 y1 y2 y3 y4 y5 y6
    go_wp2
    go_roundw
    case rel=>
     refine ⟨k+1,by omega,by go_num,HP.out.congr fun j hj=>?_⟩
     by_cases e:j=k
     ·subst e
      rw [if_pos rfl,if_pos (by omega),HX.out]
     ·rw [if_neg e]
      by_cases e' : j<k
      ·rw [if_pos e',if_pos (by omega)]
      ·rw [if_neg e',if_neg (by omega)]
    case measure=>simp [intOf];omega
  ·obtain rfl:k=sz:=by omega
   have HF:=Lh (HR.out.finish (l:=ord cs hd k) (by
    unfold ord
    exact List.map_congr_left fun j hj=>if_pos (List.mem_range.1 hj)) k (by omega) (nLR _) (by unfold maxLen;omega))
   go_wp2
   go_ret
   exact ⟨_,rfl,nwv_mk (nw_some (by have:=HR.out.old;omega)),HF.out.1,HF.out.2⟩
end Go.Proofs.YtkecnihgjepfeaaGreat
