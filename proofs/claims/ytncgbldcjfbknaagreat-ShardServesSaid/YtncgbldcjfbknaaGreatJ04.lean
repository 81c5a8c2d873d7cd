/- What is proved here: (plain) rings of messages: their order, their first error, and what changes of them give; ring.place, ring.within, ring.hasValidNumbers, each by one contract; ring.ordered returns the messages of a ring in order; shardqueueref04.order returns the messages of a ring in order; '==' and '!=' of a message and itself. -/
import Derived.Test.YtncgbldcjfbknaaGreatJ03
import Derived.RegionTactic
import Derived.Deep.RegionWith
import Derived.Deep.RegionHeld3
import Derived.Deep.DrawnRows
import Derived.Laws.StructEq
import Derived.KernelRfl
namespace Go.Proofs.YtncgbldcjfbknaaGreat
open Go.RowKit
set_option linter.unusedVariables false
def nmB (n:Nat) (hd sz:Int):Bool:=wi n 1 12&&(wi hd 0 ((n:Int) - 1)&&wi sz 0 n)
theorem nm_of {n:Nat} {hd sz:Int} (h:nmB n hd sz=true):(1≤n∧n≤12)∧(0≤hd∧hd<n)∧(0≤sz∧sz≤n):=by
 unfold nmB at h
 simp only [Bool.and_eq_true] at h
 have h0:=wi_of h.1
 have h1:=wi_of h.2.1
 have h2:=wi_of h.2.2
 omega
theorem nm_mk {n:Nat} {hd sz:Int} (h:(1≤n∧n≤12)∧(0≤hd∧hd<n)∧(0≤sz∧sz≤n)):nmB n hd sz=true:=by
 unfold nmB
 rw [wi_true (by omega) (by omega),wi_true (by omega) (by omega),wi_true (by omega) (by omega)]
 rfl
def cel (cs:List Msg) (hd:Nat) (k:Nat):Msg:=cs.getD ((hd+k) % cs.length) zM
def ord (cs:List Msg) (hd sz:Nat):List Msg:=(List.range sz).map (cel cs hd)
theorem ord_len (cs:List Msg) (hd sz:Nat):(ord cs hd sz).length=sz:=by simp [ord]
theorem ord_at (cs:List Msg) (hd sz k:Nat) (h:k<(ord cs hd sz).length):(ord cs hd sz)[k]=cel cs hd k:=by simp [ord]
def fe:List Msg→Int
 | []=>0
 | M::l=>if vf M=0 then fe l else vf M
theorem fe_all {l:List Msg} (h:∀ M∈l,vf M=0):fe l=0:=by
 induction l with
 | nil=>rfl
 | cons M l ih=>rw [fe,if_pos (h M (by simp)),ih (fun N hN=>h N (by simp [hN]))]
theorem fe_hit {l:List Msg} {k:Nat} (hk:k<l.length) (hn:∀ j (hj:j<l.length),j<k→vf l[j]=0) (h:vf l[k]≠0):fe l=vf l[k]:=by
 induction l generalizing k with
 | nil=>simp at hk
 | cons M l ih=>
  cases k with
  | zero=>rw [fe,if_neg (by simpa using h)];rfl
  | succ k=>
   rw [fe,if_pos (show vf M=0 from hn 0 (by simp) (by omega))]
   exact ih (by simpa using hk) (fun j hj hlt=>hn (j+1) (by simpa using hj) (by omega)) (by simpa using h)
theorem fe_zero {l:List Msg} (h:fe l=0):∀ M∈l,vf M=0:=by
 induction l with
 | nil=>simp
 | cons M l ih=>
  rw [fe] at h
  by_cases e:vf M=0
  ·rw [if_pos e] at h
   intro N hN
   rcases List.mem_cons.1 hN with rfl | hN
   ·exact e
   ·exact ih h N hN
  ·rw [if_neg e] at h;exact absurd h e
def dupP (l:List Msg):Prop:=∃ (i j:Nat) (hi:i<l.length) (hj:j<l.length),i<j∧l[i].id=l[j].id
open Classical in
noncomputable def rgV (cs:List Msg) (hd sz:Int):Int:=
 if nmB cs.length hd sz=false then 1
 else if ¬(∀ k,sz.toNat≤k→k<cs.length→cel cs hd.toNat k=zM) then 7
 else if fe (ord cs hd.toNat sz.toNat)≠0 then fe (ord cs hd.toNat sz.toNat)
 else if dupP (ord cs hd.toNat sz.toNat) then 10 else 0
section
variable {cs:List Msg} {hd sz:Int}
theorem rgV_num (h:nmB cs.length hd sz=false):rgV cs hd sz=1:=if_pos h
theorem rgV_free (h:nmB cs.length hd sz=true) (h1:¬(∀ k,sz.toNat≤k→k<cs.length→cel cs hd.toNat k=zM)):rgV cs hd sz=7:=by
 unfold rgV;rw [if_neg (by simp [h]),if_pos h1]
theorem rgV_msg (h:nmB cs.length hd sz=true) (h1:∀ k,sz.toNat≤k→k<cs.length→cel cs hd.toNat k=zM) (h2:fe (ord cs hd.toNat sz.toNat)≠0):rgV cs hd sz=fe (ord cs hd.toNat sz.toNat):=by
 unfold rgV;rw [if_neg (by simp [h]),if_neg (by simpa using h1),if_pos h2]
theorem rgV_dup (h:nmB cs.length hd sz=true) (h1:∀ k,sz.toNat≤k→k<cs.length→cel cs hd.toNat k=zM) (h2:fe (ord cs hd.toNat sz.toNat)=0) (h3:dupP (ord cs hd.toNat sz.toNat)):rgV cs hd sz=10:=by
 unfold rgV;rw [if_neg (by simp [h]),if_neg (by simpa using h1),if_neg (by simp [h2]),if_pos h3]
theorem rgV_ok (h:nmB cs.length hd sz=true) (h1:∀ k,sz.toNat≤k→k<cs.length→cel cs hd.toNat k=zM) (h2:fe (ord cs hd.toNat sz.toNat)=0) (h3:¬dupP (ord cs hd.toNat sz.toNat)):rgV cs hd sz=0:=by
 unfold rgV;rw [if_neg (by simp [h]),if_neg (by simpa using h1),if_neg (by simp [h2]),if_neg h3]
theorem rgV_zero (h:rgV cs hd sz=0):nmB cs.length hd sz=true∧(∀ k,sz.toNat≤k→k<cs.length→cel cs hd.toNat k=zM)∧fe (ord cs hd.toNat sz.toNat)=0∧¬dupP (ord cs hd.toNat sz.toNat):=by
 cases h0:nmB cs.length hd sz with
 | false=>rw [rgV_num h0] at h;exact absurd h (by decide)
 | true=>
  by_cases h1:∀ k,sz.toNat≤k→k<cs.length→cel cs hd.toNat k=zM
  ·by_cases h2:fe (ord cs hd.toNat sz.toNat)=0
   ·by_cases h3:dupP (ord cs hd.toNat sz.toNat)
    ·rw [rgV_dup h0 h1 h2 h3] at h;exact absurd h (by decide)
    ·exact ⟨rfl,h1,h2,h3⟩
   ·rw [rgV_msg h0 h1 h2] at h;exact absurd h h2
  ·rw [rgV_free h0 h1] at h;exact absurd h (by decide)
end
def fil (n hd:Nat) (l:List Msg):List Msg:=(List.range n).map fun j=>l.getD ((j+n - hd) % n) zM
theorem fil_len (n hd:Nat) (l:List Msg):(fil n hd l).length=n:=by simp [fil]
theorem cel_fil {n hd k:Nat} (l:List Msg) (hh:hd<n) (hk:k<n):cel (fil n hd l) hd k=l.getD k zM:=by
 unfold cel
 rw [fil_len]
 have hm:(hd+k) % n<n:=Nat.mod_lt _ (by omega)
 have e:((hd+k) % n+n - hd) % n=k:=by
  rcases Nat.lt_or_ge (hd+k) n with h | h
  ·rw [Nat.mod_eq_of_lt h,show hd+k+n - hd=k+n by omega,Nat.add_mod_right,Nat.mod_eq_of_lt hk]
  ·rw [Nat.mod_eq_sub_mod h,Nat.mod_eq_of_lt (show hd+k - n<n by omega),show hd+k - n+n - hd=k by omega,Nat.mod_eq_of_lt hk]
 simp [fil,List.getD,hm,e]
theorem ord_fil {n hd:Nat} (l:List Msg) (hh:hd<n) (hl:l.length≤n):ord (fil n hd l) hd l.length=l:=by
 apply List.ext_getElem
 ·rw [ord_len]
 ·intro k h1 h2
  rw [ord_at,cel_fil l hh (by omega)]
  simp [List.getD,h2]
theorem cel_ext {cs ds:List Msg} {hd:Nat} (hl:cs.length=ds.length) (hh:hd<cs.length) (h:∀ k,k<cs.length→cel cs hd k=cel ds hd k):cs=ds:=by
 apply List.ext_getElem hl
 intro j h1 h2
 have g:=h ((j+cs.length - hd) % cs.length) (Nat.mod_lt _ (by omega))
 have e:(hd+(j+cs.length - hd) % cs.length) % cs.length=j:=by
  rcases Nat.lt_or_ge j hd with hj | hj
  ·rw [Nat.mod_eq_of_lt (show j+cs.length - hd<cs.length by omega),show hd+(j+cs.length - hd)=j+cs.length by omega,Nat.add_mod_right,Nat.mod_eq_of_lt h1]
  ·rw [show j+cs.length - hd=(j - hd)+cs.length by omega,Nat.add_mod_right,Nat.mod_eq_of_lt (show j - hd<cs.length by omega),show hd+(j - hd)=j by omega,Nat.mod_eq_of_lt h1]
 unfold cel at g
 rw [←hl,e] at g
 simpa [List.getD,h1,h2] using g
theorem fil_ord {cs:List Msg} {hd sz:Nat} (hh:hd<cs.length) (hz:∀ k,sz≤k→k<cs.length→cel cs hd k=zM):fil cs.length hd (ord cs hd sz)=cs:=by
 refine cel_ext (hd:=hd) (fil_len _ _ _) (by rw [fil_len];exact hh) fun k hk=>?_
 rw [fil_len] at hk
 rw [cel_fil _ hh hk]
 by_cases h:k<sz
 ·simp [List.getD,ord,h]
 ·rw [hz k (by omega) hk]
  simp [List.getD,ord,h]
theorem place_any (A:Option Addr) (n c:Nat) (hd sz i:Int) (h0:0≤hd) (h1:hd≤100) (i0:0≤i) (i1:i≤100) (n0:0<n) (n1:n≤100) (w:World) :
  Calls Tryz.prog 105 #[.agg #[.slice A n c,.int .i64 hd,.int .i64 sz],.int .i64 i] w fun e w'=>e=.returned (.int .i64 ((hd+i) % (n:Int)))∧Below w.heap.size w w':=by
 have HB:=Lh ((Below.refl w.heap.size w).alloc (Nat.le_refl _) (.cells #[.slice A n c,.int .i64 hd,.int .i64 sz] 27))
 have n0' : (0:Int)<(n:Int):=by omega
 have n1' : (n:Int)≤100:=by omega
 go_enter Tryz.func105,Tryz.ntmps105
 go_wp2
 go_ret
 exact ⟨rfl,HB.out⟩
theorem gwithin_any (n lo hi:Int) (w:World):Calls Tryz.prog 121 #[.int .i64 n,.int .i64 lo,.int .i64 hi] w fun e w'=>e=.returned (.bool (wi n lo hi))∧w=w':=by
 by_cases h1:lo≤n
 ·by_cases h2:n≤hi
  ·have H:=Lh (wi_true h1 h2)
   go_enter Tryz.func121,Tryz.ntmps121
   go_wp2
   go_ret
   exact ⟨by rw [H.out];rfl,rfl⟩
  ·have H:=Lh (wi_high (lo:=lo) (show hi<n by omega))
   go_enter Tryz.func121,Tryz.ntmps121
   go_wp2
   go_ret
   exact ⟨by rw [H.out];rfl,rfl⟩
 ·have H:=Lh (wi_low (hi:=hi) (show n<lo by omega))
  go_enter Tryz.func121,Tryz.ntmps121
  go_wp2
  go_ret
  exact ⟨by rw [H.out];rfl,rfl⟩
theorem info_msg:(Tryz.prog.info? 56).map (fun i=>(i.zero,i.size,i.bytes))=some (some (Msg.v zM),7,64):=by kernel_rfl
theorem run_make_msgs (n:Nat) (h:n≤1000000) (w:World):(Instr.makeSlice 25 (.int .i64 n) (.int .i64 n)).run Tryz.prog w=.ok (.slice (some ⟨w.heap.size,0,none⟩) n n) (w.alloc (.cells (madeCells (Msg.v zM).cells (n*7)) 56)):=by
 obtain ⟨i,hi,hz⟩:=Option.map_eq_some_iff.1 info_msg
 simp only [Prod.mk.injEq] at hz
 have:=run_make w 25 56 i (Msg.v zM) Tryz.underlying25 hi hz.1 .i64 .i64 n n (by omega) (by omega) (by rw [hz.2.2];omega) (by omega)
 rw [hz.2.1] at this
 simpa using this
def LsP (l:List Msg) (w:World) (e:Ending) (w' : World):Prop:=∃ v,e=.returned v∧NwV w.heap.size v∧Ls w' w'.heap.size v l∧Below w.heap.size w w'
structure OrdAt (w:World) (p:Nat) (A:Option Addr) (n c:Nat) (hd sz:Int) (q m:Nat) (f:Nat→Msg) (W:World):Prop where
 c0:W.cell? ⟨p,0,none⟩=some (.slice A n c)
 c1:W.cell? ⟨p,1,none⟩=some (.int .i64 hd)
 c2:W.cell? ⟨p,2,none⟩=some (.int .i64 sz)
 row:MRow W q m f
 bel:Below w.heap.size w W
 old:w.heap.size≤p∧p<q
section
variable {w W W' : World} {p q n c m:Nat} {A:Option Addr} {hd sz:Int} {f:Nat→Msg}
theorem OrdAt.facts (h:OrdAt w p A n c hd sz q m f W):W.cell? ⟨p,0,none⟩=some (.slice A n c)∧W.cell? ⟨p,1,none⟩=some (.int .i64 hd)∧W.cell? ⟨p,2,none⟩=some (.int .i64 sz)∧p<W.heap.size∧q<W.heap.size:=
 ⟨h.c0,h.c1,h.c2,Nat.lt_trans h.old.2 h.row.1,h.row.1⟩
theorem OrdAt.below (h:OrdAt w p A n c hd sz q m f W) (hb:Below W.heap.size W W'):OrdAt w p A n c hd sz q m f W':=
 ⟨(hb.cell (p:=⟨p,0,none⟩) (Nat.lt_trans h.old.2 h.row.1)).trans h.c0,(hb.cell (p:=⟨p,1,none⟩) (Nat.lt_trans h.old.2 h.row.1)).trans h.c1,(hb.cell (p:=⟨p,2,none⟩) (Nat.lt_trans h.old.2 h.row.1)).trans h.c2,h.row.below hb h.row.1,h.bel.trans (hb.mono h.bel.size),h.old⟩
theorem OrdAt.put (h:OrdAt w p A n c hd sz q m f W) {k:Nat} (hk:k<m) (M:Msg):OrdAt w p A n c hd sz q m (fun i=>if i=k then M else f i) (W.setCells q (k*7) M.l):=by
 have hne:p≠q:=by have:=h.old.2;omega
 exact ⟨(sets_far (p:=⟨p,0,none⟩) hne _ _).trans h.c0,(sets_far (p:=⟨p,1,none⟩) hne _ _).trans h.c1,(sets_far (p:=⟨p,2,none⟩) hne _ _).trans h.c2,h.row.put hk M,sets_below (by have:=h.old;omega) _ _ _ h.bel,h.old⟩
theorem OrdAt.start (w:World) (A:Option Addr) (n c:Nat) (hd sz:Int) (m:Nat) (t u:TypeId):OrdAt w w.heap.size A n c hd sz (w.heap.size+1) m (fun _=>zM) ((w.alloc (.cells #[.slice A n c,.int .i64 hd,.int .i64 sz] t)).alloc (.cells (madeCells (Msg.v zM).cells (m*7)) u)):=by
 have h:=MRow.made (w.alloc (.cells #[.slice A n c,.int .i64 hd,.int .i64 sz] t)) m u
 have e:(w.alloc (.cells #[.slice A n c,.int .i64 hd,.int .i64 sz] t)).heap.size=w.heap.size+1:=by simp
 rw [e] at h
 refine ⟨?_,?_,?_,h,((Below.refl _ _).alloc (Nat.le_refl _) _).alloc (by omega) _,Nat.le_refl _,Nat.lt_succ_self _⟩
 all_goals
  rw [World.cell?_alloc_past _ _ _ (by omega)]
  simp [go_sem]
theorem OrdAt.finish (h:OrdAt w p A n c hd sz q m f W) {l:List Msg} (hl:(List.range m).map f=l) (cap:Nat) (hx:m≤m) (hc:m≤cap) (hm:cap≤maxLen):Ls W W.heap.size (.slice (some ⟨q,0,none⟩) m cap) l∧Below w.heap.size w W:=
 ⟨by rw [←hl];exact h.row.ls m cap (Nat.le_refl _) hc hm,h.bel⟩
theorem drew_below {B:Nat} {a w:World} (h:Below B a.drew w):Below B a w:=⟨h.os,h.tape,h.output,h.size,h.block⟩
theorem OrdAt.congr {g:Nat→Msg} (h:OrdAt w p A n c hd sz q m f W) (e:∀ k,k<m→f k=g k):OrdAt w p A n c hd sz q m g W:=
 ⟨h.c0,h.c1,h.c2,h.row.congr e,h.bel,h.old⟩
end
theorem OrdAt.step {w W W' : World} {p q n c m b o k:Nat} {A:Option Addr} {hd sz:Int} {f:Nat→Msg} {X:Msg} (h:OrdAt w p A n c hd sz q m f W) (hk:k<m) (hc:C7 W b o X) (hbw:b<W.heap.size) (hb:Below W.heap.size W W') :
  Hid (OrdAt w p A n c hd sz q m f W')∧(W'.cell? ⟨p,0,none⟩=some (.slice A n c)∧W'.cell? ⟨p,1,none⟩=some (.int .i64 hd)∧W'.cell? ⟨p,2,none⟩=some (.int .i64 sz)∧p<W'.heap.size∧q<W'.heap.size)∧C7 W' b o X∧C7 W' q (k*7) (f k)∧
   (W'.frozen? ⟨q,k*7,none⟩=false∧W'.frozen? ⟨q,k*7+1,none⟩=false∧W'.frozen? ⟨q,k*7+2,none⟩=false∧W'.frozen? ⟨q,k*7+3,none⟩=false∧W'.frozen? ⟨q,k*7+4,none⟩=false∧W'.frozen? ⟨q,k*7+5,none⟩=false∧W'.frozen? ⟨q,k*7+6,none⟩=false):=
 ⟨Lh (h.below hb),(h.below hb).facts,hc.below hb hbw,(h.below hb).row.c7 hk,(h.below hb).row.free _⟩
theorem cel_get {cs:List Msg} {hd k:Nat} (hn:0<cs.length) (m:Nat) (hm:m=(hd+k) % cs.length) (hlt:m<cs.length):cs[m]=cel cs hd k:=by
 subst hm
 simp [cel,List.getD,hlt]
set_option maxHeartbeats 4000000 in
set_option maxRecDepth 20000 in
theorem ordered_any (A:Option Addr) (n c:Nat) (cs:List Msg) (hd sz:Nat) (w:World) (hv:Ls w w.heap.size (.slice A n c) cs) (hn:nmB cs.length hd sz=true) :
  Calls Tryz.prog 145 #[.agg #[.slice A n c,.int .i64 hd,.int .i64 sz]] w (LsP (ord cs hd sz) w):=by
 obtain ⟨rfl,hm1,hm2⟩:=hv.len
 obtain ⟨⟨n1,n2⟩,⟨h1,h2⟩,⟨s1,s2⟩⟩:=nm_of hn
 have hmk:=run_make_msgs sz (by omega)
 have HV:=Lh hv
 clear hv hn
 go_enter Tryz.func145,Tryz.ntmps145
 go_wp2
 have HS:=Lh (OrdAt.start w A cs.length c hd sz sz 27 56)
 obtain ⟨p,hp⟩:∃ p,p=w.heap.size:=⟨_,rfl⟩
 obtain ⟨q,hq⟩:∃ q,q=w.heap.size+1:=⟨_,rfl⟩
 rw [←hq,←hp] at HS ⊢
 have HPP:=Lh hp
 clear hmk hp hq
 go_loopw [10] (fun i wr=>∃ k:Nat,k≤sz∧i=.int .i64 k∧OrdAt w p A cs.length c hd sz q sz (fun j=>if j<k then cel cs hd j else zM) wr) (fun i _=>sz - (intOf i).toNat)
 case atStart=>exact ⟨0,by omega,rfl,HS.out.congr fun j _=>by simp⟩
 case round=>
  obtain ⟨k,hk,rfl,hrel⟩:=hrel
  have HR:=Lh hrel
  have HVK:=Lh (HV.out.below hrel.bel)
  clear hrel
  by_cases hlt:k<sz
  ·obtain ⟨m,hm⟩:∃ m,m=(hd+k) % cs.length:=⟨_,rfl⟩
   have hml:m<cs.length:=by rw [hm];exact Nat.mod_lt _ (by omega)
   have HX:=Lh (cel_get (by omega) m hm hml)
   have HPL:=Lh (fun w=>place_any A cs.length c hd sz k (by omega) (by omega) (by omega) (by omega) (by omega) (by omega) w)
   have hmi:((hd:Int)+(k:Int)) % (cs.length:Int)=(m:Int):=by rw [hm];simp
   rw [hmi] at HPL
   obtain ⟨b,o,rfl,hb,hc⟩:=HVK.out.at_ hml
   generalize cs[m]=X at*
   clear hm hmi
   obtain ⟨r0,r1,r2,hpl,hql⟩:=HR.out.facts
   have HC7:=Lh hc
   clear hc
   have hbw:b<wr.heap.size:=by have:=HPP.out;omega
   go_wp2
   have HST:=Lh (fun w1 (hb1:Below wr.drew.heap.size wr.drew w1)=>OrdAt.step (X:=X) HR.out hlt HC7.out hbw (drew_below hb1))
   have hzz:(if k<k then cel cs hd k else zM)=zM:=if_neg (by omega)
   simp only [hzz] at HST
   clear hzz
   go_region_with ((go_at_call 105;refine (HPL.out _).mono ?_;rintro e w1 ⟨rfl,hb1⟩;obtain ⟨HR1,⟨x0,x1,x2,hpl1,hql1⟩,⟨d0,d1,d2,d3,d4,d5,d6⟩,⟨z0,z1,z2,z3,z4,z5,z6⟩,⟨y0,y1,y2,y3,y4,y5,y6⟩⟩:=HST.out _ hb1;clear hb1))
   all_goals
    have HP:=Lh (HR1.out.put hlt X)
    clear d0 d1 d2 d3 d4 d5 d6 z0 z1 z2 z3 z4 z5 z6 y0 y1 y2 y3 y4 y5 y6
    go_wp2
    go_roundw
    case rel=>
     refine ⟨k+1,by omega,by go_num,HP.out.congr fun j hj=>?_⟩
     by_cases e:j=k
     ·subst e
      rw [if_pos rfl,if_pos (by omega),HX.out]
     ·rw [if_neg e]
      by_cases e' : j<k
      ·rw [if_pos e',if_pos (by omega)]
      ·rw [if_neg e',if_neg (by omega)]
    case measure=>simp [intOf];omega
  ·obtain rfl:k=sz:=by omega
   have HF:=Lh (HR.out.finish (l:=ord cs hd k) (by
    unfold ord
    exact List.map_congr_left fun j hj=>if_pos (List.mem_range.1 hj)) k (by omega) (Nat.le_refl _) (by unfold maxLen;omega))
   go_wp2
   go_ret
   exact ⟨_,rfl,nwv_mk (nw_some (by have:=HR.out.old;omega)),HF.out.1,HF.out.2⟩
def LsO (l:List Msg) (w:World) (e:Ending) (w' : World):Prop:=∃ v,e=.returned v∧w'.ownsRow w.heap.size 56 7 v l.length (lcs l)∧Below w.heap.size w w'
theorem ord_succ {cs:List Msg} {hd k:Nat}:ord cs hd (k+1)=ord cs hd k++[cel cs hd k]:=by
 unfold ord
 rw [List.range_succ,List.map_append]
 rfl
structure RgAt (w:World) (p:Nat) (A:Option Addr) (n c:Nat) (hd sz:Int) (W:World):Prop where
 c0:W.cell? ⟨p,0,none⟩=some (.slice A n c)
 c1:W.cell? ⟨p,1,none⟩=some (.int .i64 hd)
 c2:W.cell? ⟨p,2,none⟩=some (.int .i64 sz)
 bel:Below w.heap.size w W
 old:w.heap.size≤p∧p<W.heap.size
section
variable {w W W' : World} {p n c:Nat} {A:Option Addr} {hd sz:Int}
theorem RgAt.facts (h:RgAt w p A n c hd sz W):W.cell? ⟨p,0,none⟩=some (.slice A n c)∧W.cell? ⟨p,1,none⟩=some (.int .i64 hd)∧W.cell? ⟨p,2,none⟩=some (.int .i64 sz)∧p<W.heap.size:=⟨h.c0,h.c1,h.c2,h.old.2⟩
theorem RgAt.below (h:RgAt w p A n c hd sz W) (hb:Below W.heap.size W W'):RgAt w p A n c hd sz W':=
 ⟨(hb.cell (p:=⟨p,0,none⟩) h.old.2).trans h.c0,(hb.cell (p:=⟨p,1,none⟩) h.old.2).trans h.c1,(hb.cell (p:=⟨p,2,none⟩) h.old.2).trans h.c2,h.bel.trans (hb.mono h.bel.size),h.old.1,Nat.lt_of_lt_of_le h.old.2 hb.size⟩
theorem RgAt.drew (h:RgAt w p A n c hd sz W):RgAt w p A n c hd sz W.drew:=⟨h.c0,h.c1,h.c2,h.bel.drew,h.old⟩
theorem RgAt.drewN (h:RgAt w p A n c hd sz W) (k:Nat):RgAt w p A n c hd sz (W.drewN k):=⟨h.c0,h.c1,h.c2,below_drewN h.bel k,h.old⟩
theorem RgAt.alloc (h:RgAt w p A n c hd sz W) (o:Obj):RgAt w p A n c hd sz (W.alloc o):=h.below ((Below.refl _ _).alloc (Nat.le_refl _) o)
theorem RgAt.grown (h:RgAt w p A n c hd sz W) {row:Option Nat} (hg:W.grownBy W' row) (hr:∀ k,row=some k→p<k):RgAt w p A n c hd sz W':=by
 have e:∀ o,W'.cell? ⟨p,o,none⟩=W.cell? ⟨p,o,none⟩:=fun o=>hg.cell_far ⟨p,o,none⟩ h.old.2 (fun e=>by have:=hr p e.symm;omega)
 exact ⟨(e 0).trans h.c0,(e 1).trans h.c1,(e 2).trans h.c2,h.bel.grown hg h.bel.size (fun k hk=>by have:=hr k hk;have:=h.old.1;omega),h.old.1,Nat.lt_of_lt_of_le h.old.2 hg.size⟩
theorem RgAt.start (w:World) (A:Option Addr) (n c:Nat) (hd sz:Int) (t:TypeId):RgAt w w.heap.size A n c hd sz (w.alloc (.cells #[.slice A n c,.int .i64 hd,.int .i64 sz] t)):=
 ⟨by simp [go_sem],by simp [go_sem],by simp [go_sem],(Below.refl _ _).alloc (Nat.le_refl _) _,Nat.le_refl _,by simp⟩
end
abbrev S8 (p:Nat) (A:Option Addr) (n c:Nat) (hd:Int) (b m:Nat) (X:Msg) (W:World):Prop:=W.cell? ⟨p,0,none⟩=some (.slice A n c)∧W.cell? ⟨p,1,none⟩=some (.int .i64 hd)∧W.cell? ⟨b,m,none⟩=some (.int .i64 X.id)∧W.cell? ⟨b,m+1,none⟩=some (.int .i64 X.rt)∧W.cell? ⟨b,m+2,none⟩=some (.int .i64 X.ep)∧W.cell? ⟨b,m+3,none⟩=some (.int .i64 X.ct)∧W.cell? ⟨b,m+4,none⟩=some (.int .i64 X.gn)∧W.cell? ⟨b,m+5,none⟩=some (.int .i64 X.st)∧W.cell? ⟨b,m+6,none⟩=some (.string X.bd)
theorem s8_mk {w W:World} {p n c:Nat} {A:Option Addr} {hd sz:Int} {b m:Nat} {X:Msg} (h:RgAt w p A n c hd sz W) (hc:C7 W b m X):S8 p A n c hd b m X W:=⟨h.c0,h.c1,hc⟩
theorem C7.grown {W W' : World} {b m p:Nat} {X:Msg} {row:Option Nat} (h:C7 W b m X) (hg:W.grownBy W' row) (hb:b<p) (hp:p<W.heap.size) (hr:∀ k,row=some k→p<k):C7 W' b m X:=by
 have e:∀ o,W'.cell? ⟨b,o,none⟩=W.cell? ⟨b,o,none⟩:=fun o=>hg.cell_far ⟨b,o,none⟩ (show b<W.heap.size by omega) (fun e=>by have:=hr b e.symm;omega)
 obtain ⟨c0,c1,c2,c3,c4,c5,c6⟩:=h
 exact ⟨(e _).trans c0,(e _).trans c1,(e _).trans c2,(e _).trans c3,(e _).trans c4,(e _).trans c5,(e _).trans c6⟩
theorem own_far {W:World} {p k:Nat} {e:TypeId} {v:Value} {xs:List Value} {size:Nat} (hown:W.ownsRow (p+1) e size v k xs):∀ x,v.ownBlock=some x→p<x:=by
 intro x hx
 rcases hown.2 with ⟨hv,_⟩ | ⟨g,cap,cur,hv,hg,_⟩
 ·subst hv;simp [Value.ownBlock] at hx
 ·subst hv;simp [Value.ownBlock] at hx;omega
theorem ord_step {w W W1 Wo:World} {p n c k k1 b m:Nat} {A:Option Addr} {hd sz:Int} {X:Msg} {e:TypeId} {v v1:Value} {xs ys:List Value} (hr:RgAt w p A n c hd sz W) (hc:C7 W b m X) (hbp:b<p) (hown:Wo.ownsRow (p+1) e 7 v k xs) (hg:W.grownBy W1 v.ownBlock) (h1:W1.ownsRow (p+1) e 7 v1 k1 ys) :
  RgAt w p A n c hd sz W1∧W1.ownsRow (p+1) e 7 v1 k1 ys∧S8 p A n c hd b m X W1:=
 ⟨hr.grown hg (own_far hown),h1,s8_mk (hr.grown hg (own_far hown)) (hc.grown hg hbp hr.old.2 (own_far hown))⟩
attribute [local go_sem ↓] Go.wp_at_zero Go.wp_at_succ
set_option maxHeartbeats 4000000 in
set_option maxRecDepth 20000 in
theorem rorder_own (A:Option Addr) (n c:Nat) (cs:List Msg) (hd sz:Nat) (w:World) (hv:Ls w w.heap.size (.slice A n c) cs) (hn:nmB cs.length hd sz=true) :
  Calls Tryz.prog 112 #[.agg #[.slice A n c,.int .i64 hd,.int .i64 sz]] w (LsO (ord cs hd sz) w):=by
 obtain ⟨rfl,hm1,hm2⟩:=hv.len
 obtain ⟨⟨n1,n2⟩,⟨h1,h2⟩,⟨s1,s2⟩⟩:=nm_of hn
 obtain ⟨i0,hi0,hz0⟩:=Option.map_eq_some_iff.1 info_msg
 simp only [Prod.mk.injEq] at hz0
 have HI:=Lh hi0
 have HZ:=Lh hz0
 have HV:=Lh hv
 clear hv hn hi0 hz0
 go_enter Tryz.func112,Tryz.ntmps112
 go_wp2
 have HS:=Lh (RgAt.start w A cs.length c hd sz 27)
 obtain ⟨p,hp⟩:∃ p,p=w.heap.size:=⟨_,rfl⟩
 rw [←hp] at HS ⊢
 have HPP:=Lh hp
 clear hp
 go_loopw [3,4] (fun s i wr=>∃ k:Nat,k≤sz∧i=.int .i64 k∧RgAt w p A cs.length c hd sz wr∧wr.ownsRow (p+1) 56 7 s k (lcs (ord cs hd k))) (fun _ i _=>sz - (intOf i).toNat)
 case atStart=>exact ⟨0,by omega,rfl,HS.out,World.ownsRow_nil _ _ _ _⟩
 case round=>
  obtain ⟨k,hk,rfl,hr,hown⟩:=hrel
  obtain ⟨As,cap,rfl⟩:=own_form hown
  have HR:=Lh hr
  have HO:=Lh hown
  have HVK:=Lh (HV.out.below hr.bel)
  obtain ⟨r0,r1,r2,hpl⟩:=hr.facts
  clear hr hown
  by_cases hlt:k<sz
  ·obtain ⟨m,hm⟩:∃ m,m=(hd+k) % cs.length:=⟨_,rfl⟩
   have hml:m<cs.length:=by rw [hm];exact Nat.mod_lt _ (by omega)
   have HX:=Lh (cel_get (by omega) m hm hml)
   have hmi:((hd:Int)+(k:Int)) % (cs.length:Int)=(m:Int):=by rw [hm];simp
   have hhk:IntKind.i64.wrap ((hd:Int)+(k:Int))=(hd:Int)+(k:Int):=IntWalk.i64_in _ (by omega)
   have hn0:(0:Int)<(cs.length:Int):=by omega
   have hnb0:((cs.length:Int)==0)=false:=beq_eq_false_iff_ne.2 (by omega)
   have hnl0:¬(cs.length=0):=by omega
   have hnil:¬(cs=[]):=fun e=>by rw [e] at n1;simp at n1
   have hmt:((hd:Int)+(k:Int)).tmod (cs.length:Int)=(m:Int):=by rw [Int.tmod_eq_emod_of_nonneg (show 0≤(hd:Int)+(k:Int) by omega)];exact hmi
   have hmw:IntKind.i64.wrap (m:Int)=(m:Int):=IntWalk.i64_in _ (by omega)
   obtain ⟨b,o,rfl,hb,hc⟩:=HVK.out.at_ hml
   generalize cs[m]=X at*
   have hml' : (m:Int)<(cs.length:Int):=by omega
   have hRA:=HR.out.drew.alloc (.cells X.cs 56)
   have HS0:=Lh (s8_mk (X:=X) HR.out.drew hc)
   have hCA:C7 (wr.drew.alloc (.cells X.cs 56)) b (o+m*7) X:=C7.below (W:=wr.drew) hc ((Below.refl wr.drew.heap.size wr.drew).alloc (Nat.le_refl _) _) (show b<wr.drew.heap.size by show b<wr.heap.size;have:=HPP.out;omega)
   have HS1:=Lh (s8_mk (X:=X) hRA hCA)
   have HOA:=Lh (HO.out.alloc (.cells X.cs 56))
   have HRA:=Lh hRA
   have HCA:=Lh hCA
   have HBP:=Lh (show b<p by have:=HPP.out;omega)
   clear hm hRA hCA hc hb
   go_wp2
   go_region_held3 (fun W=>W.cell? ⟨p,0,none⟩=some (.slice (some ⟨b,o,none⟩) cs.length c)∧W.cell? ⟨p,1,none⟩=some (.int .i64 hd)∧W.cell? ⟨b,o+m*7,none⟩=some (.int .i64 X.id)∧W.cell? ⟨b,o+m*7+1,none⟩=some (.int .i64 X.rt)∧W.cell? ⟨b,o+m*7+2,none⟩=some (.int .i64 X.ep)∧W.cell? ⟨b,o+m*7+3,none⟩=some (.int .i64 X.ct)∧W.cell? ⟨b,o+m*7+4,none⟩=some (.int .i64 X.gn)∧W.cell? ⟨b,o+m*7+5,none⟩=some (.int .i64 X.st)∧W.cell? ⟨b,o+m*7+6,none⟩=some (.string X.bd))
    (first | exact HS0.out | exact HS1.out | exact HS2.out)
    (first
    | (refine step_append_lies _ (by rfl) _ _ _ (by rfl) (p+1) 56 i0 _ 7 64 Tryz.underlying25 HI.out HZ.out.1 HZ.out.2.1 HZ.out.2.2 rfl (by omega) (.slice As k cap) k (lcs (ord cs hd k)) (by rfl) HOA.out ⟨wr.heap.size,0,none⟩ 1 1 X.l (by rfl) (by simp [Msg.l_len]) (World.news_of_block (cs:=X.cs) (t:=56) (fr:=(0,0)) (heap_alloc_new wr.drew _)) X.l_one (by omega) (by unfold maxLen;omega) (by omega) HRA.out.old.2 _ rfl ?_;intro g1 cap1 w1 hown1 hgrow1 hat1 hlt1;have HFN:=Lh (ord_step HRA.out HCA.out HBP.out HO.out hgrow1 hown1);have HS2:=Lh HFN.out.2.2;clear hown1 hgrow1 hat1 hlt1))
   have HOK:=Lh (show w1.ownsRow (p+1) 56 7 (.slice (some ⟨g1,0,none⟩) (k+1) cap1) (k+1) (lcs (ord cs hd (k+1))) by
    rw [ord_succ,lcs_app,←HX.out]
    simpa [lcs] using HFN.out.2.1)
   have HRK:=Lh HFN.out.1
   clear hn0 hnb0 hnl0 hnil hmt hmw hhk hmi
   go_wp2
   go_roundw
   case rel=>exact ⟨k+1,by omega,by go_num,HRK.out,HOK.out⟩
   case measure=>simp [intOf];omega
  ·obtain rfl:k=sz:=by omega
   have HF:=Lh (show wr.ownsRow w.heap.size 56 7 (.slice As k cap) (ord cs hd k).length (lcs (ord cs hd k)) by rw [ord_len];exact own_low HO.out (by have:=HPP.out;omega))
   go_wp2
   go_ret
   exact ⟨_,rfl,HF.out,HR.out.bel⟩
theorem LsO.lsP {l:List Msg} {w:World} {e:Ending} {w' : World} (h:LsO l w e w'):LsP l w e w':=by
 obtain ⟨v,he,ho,hb⟩:=h
 exact ⟨v,he,nwv_own ho (Nat.le_refl _),Ls.of_own ho,hb⟩
theorem rorder_any (A:Option Addr) (n c:Nat) (cs:List Msg) (hd sz:Nat) (w:World) (hv:Ls w w.heap.size (.slice A n c) cs) (hn:nmB cs.length hd sz=true) :
  Calls Tryz.prog 112 #[.agg #[.slice A n c,.int .i64 hd,.int .i64 sz]] w (LsP (ord cs hd sz) w):=
 (rorder_own A n c cs hd sz w hv hn).mono fun _ _ h=>h.lsP
theorem eqm_in (M:Msg) (W:World):(Op.equalIn 10000 56 M.v M.v).run Tryz.prog W=.ok true W:=by
 have u3:=Tryz.underlying3
 have u9:=Tryz.underlying9
 have hS:Tryz.prog.underlying 56=some (.struct (Tryz.prog.fieldsOf 56)):=by kernel_rfl
 have hp:Tryz.prog.stoodInHeld 56=false:=by kernel_rfl
 rw [show (10000:Nat)=9999+1 from rfl,run_equalIn_agg W 9999 56 _ _ hS hp]
 simp only [Program.fieldsOf,Tryz.underlying56]
 go_simp
theorem neqm (M:Msg):∀ W,(binOp .neq 56 M.v M.v).run Tryz.prog W=.ok (.bool false) W:=fun W=>by
 rw [run_neq_struct,eqm_in];rfl
end Go.Proofs.YtncgbldcjfbknaaGreat
