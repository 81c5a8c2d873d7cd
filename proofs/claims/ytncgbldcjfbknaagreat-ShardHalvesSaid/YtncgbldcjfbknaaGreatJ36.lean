/- What is proved here: Sgd; shard.gather, by one contract for all shards; slices.Grow, slices.Concat of messages by contracts; shard.uniteError finds nothing wrong with two valid shards that are neighbours, have room in the first one's ring and no ID in both; shard.Unite of two valid shards that are neighbours, have room and no ID in both. -/
import Derived.Test.YtncgbldcjfbknaaGreatJ26
/- Plain: what gathering the messages and leases of a shard that another one has the routes of makes of it. -/
namespace Go.Proofs.YtncgbldcjfbknaaGreat
open Go.RowKit
set_option linter.unusedVariables false
/-- A push to the end of the deque, a grant: of any shard. -/
noncomputable def Sh.psh (S:Sh) (M:Msg):Sh:=⟨S.lv,S.lo,S.hi,pbC S.cs S.hd S.sz M,ifE (puE S.cs S.hd S.sz M) S.hd,ifE (puE S.cs S.hd S.sz M) (S.sz+1),S.l,S.h⟩
noncomputable def Sh.gra (S:Sh) (x:Le):Sh:=⟨S.lv,S.lo,S.hi,S.cs,S.hd,S.sz,grL S.l S.h x,grH S.l S.h x⟩
/-- The same, if the shard has the route. -/
noncomputable def Sh.gp (S:Sh) (M:Msg):Sh:=if wi M.rt S.lo S.hi=true then S.psh M else S
noncomputable def Sh.gl (S:Sh) (x:Le):Sh:=if wi x.m.rt S.lo S.hi=true then S.gra x else S
/-- All messages, all leases. -/
noncomputable def gpF (S:Sh) (T:List Msg):Sh:=T.foldl Sh.gp S
noncomputable def glF (S:Sh) (X:List Le):Sh:=X.foldl Sh.gl S
noncomputable def gthF (S F:Sh):Sh:=glF (gpF S (lsF F.cs F.hd F.sz)) F.l
theorem gpF_next {S:Sh} {T:List Msg} {k:Nat} (hk:k<T.length):gpF S (T.take (k+1))=(gpF S (T.take k)).gp T[k]:=by
 unfold gpF
 rw [←List.take_append_getElem hk,List.foldl_append]
 rfl
theorem glF_next {S:Sh} {X:List Le} {k:Nat} (hk:k<X.length):glF S (X.take (k+1))=(glF S (X.take k)).gl X[k]:=by
 unfold glF
 rw [←List.take_append_getElem hk,List.foldl_append]
 rfl
theorem gp_yes {S:Sh} {M:Msg} (h:wi M.rt S.lo S.hi=true):S.gp M=S.psh M:=if_pos h
theorem gp_no {S:Sh} {M:Msg} (h:wi M.rt S.lo S.hi=false):S.gp M=S:=if_neg (by simp [h])
theorem gl_yes {S:Sh} {x:Le} (h:wi x.m.rt S.lo S.hi=true):S.gl x=S.gra x:=if_pos h
theorem gl_no {S:Sh} {x:Le} (h:wi x.m.rt S.lo S.hi=false):S.gl x=S:=if_neg (by simp [h])
section
variable {V:Vs}
theorem psh_sh (k:V.Ok) {M:Msg} (f:Fits V M):V.sh.psh M=(V.push M).sh:=by
 obtain ⟨p1,p2⟩:=k.pb f
 show Sh.mk true V.lo V.hi (pbC (fil V.n V.hd V.L) V.hd V.L.length M) (ifE (puE (fil V.n V.hd V.L) V.hd V.L.length M) V.hd) (ifE (puE (fil V.n V.hd V.L) V.hd V.L.length M) (V.L.length+1)) V.l V.h=Sh.mk true V.lo V.hi (fil V.n V.hd (V.L++[M])) V.hd (V.L++[M]).length V.l V.h
 rw [p1,p2]
 simp [ifE]
/-- What is wanted of a list: the messages of the shard's routes. -/
def Vs.has (V:Vs) (M:Msg):Bool:=wi M.rt V.lo V.hi
theorem has_iff {M:Msg}:V.has M=true↔V.lo≤M.rt∧M.rt≤V.hi:=⟨wi_of,fun h=>wi_true h.1 h.2⟩
theorem gpF_ok:∀ (T:List Msg) (V:Vs),V.Ok→Gd (T.filter V.has++V.al)→V.L.length+V.l.length+(T.filter V.has).length≤V.n→
  gpF V.sh T=(V.ring (V.L++T.filter V.has)).sh∧(V.ring (V.L++T.filter V.has)).Ok
 | [],V,k,_,_=>by
  rw [List.filter_nil,List.append_nil]
  exact ⟨rfl,k⟩
 | M::T,V,k,hg,hr=>by
  by_cases h:V.has M=true
  ·rw [List.filter_cons_of_pos h] at hg hr ⊢
   have hg2:=gd_cons.1 (show Gd (M::(T.filter V.has++V.al)) from hg)
   simp only [List.length_cons] at hr
   have f:Fits V M:=⟨hg2.1,has_iff.1 h,by omega,fun N hN=>hg2.2.2 N (List.mem_append_right _ hN)⟩
   have k2:=k.push f
   have hp:(T.filter V.has++(V.push M).al).Perm (M::T.filter V.has++V.al):=((push_al V M).append_left _).trans List.perm_middle
   obtain ⟨e,k3⟩:=gpF_ok T (V.push M) k2 (gd_perm hp.symm hg) (by show (V.L++[M]).length+V.l.length+(T.filter V.has).length≤V.n;simp;omega)
   have e1:gpF V.sh (M::T)=gpF (V.push M).sh T:=by
    show gpF (V.sh.gp M) T=_
    rw [gp_yes (show wi M.rt V.sh.lo V.sh.hi=true from h),psh_sh k f]
   have e2:(V.push M).ring ((V.push M).L++T.filter (V.push M).has)=V.ring (V.L++M::T.filter V.has):=by
    show Vs.mk V.lo V.hi V.n V.hd ((V.L++[M])++T.filter V.has) V.l V.h=Vs.mk V.lo V.hi V.n V.hd (V.L++M::T.filter V.has) V.l V.h
    rw [List.append_assoc];rfl
   rw [e2] at e k3
   exact ⟨e1.trans e,k3⟩
  ·have h' : V.has M=false:=by simpa using h
   rw [List.filter_cons_of_neg h] at hg hr ⊢
   have e1:gpF V.sh (M::T)=gpF V.sh T:=by
    show gpF (V.sh.gp M) T=_
    rw [gp_no (show wi M.rt V.sh.lo V.sh.hi=false from h')]
   rw [e1]
   exact gpF_ok T V k hg hr
theorem glF_ok:∀ (X:List Le) (V:Vs),V.Ok→(∀ x∈X,leOk x)→Gd ((X.filter (fun x=>V.has x.m)).map Le.m++V.al)→V.L.length+V.l.length+(X.filter (fun x=>V.has x.m)).length≤V.n→
  ∃ V' : Vs,V'.Ok∧glF V.sh X=V'.sh∧V'.lo=V.lo∧V'.hi=V.hi∧V'.n=V.n∧V'.hd=V.hd∧V'.L=V.L∧V'.l.Perm (X.filter (fun x=>V.has x.m)++V.l)
 | [],V,k,_,_,_=>⟨V,k,rfl,rfl,rfl,rfl,rfl,rfl,List.Perm.refl _⟩
 | x::X,V,k,hx,hg,hr=>by
  by_cases h:V.has x.m=true
  ·rw [List.filter_cons_of_pos (p:=fun x:Le=>V.has x.m) h] at hg hr ⊢
   rw [List.map_cons] at hg
   have hg2:=gd_cons.1 (show Gd (x.m::((X.filter (fun x=>V.has x.m)).map Le.m++V.al)) from hg)
   simp only [List.length_cons] at hr
   have f:Fits V x.m:=⟨hg2.1,has_iff.1 h,by omega,fun N hN=>hg2.2.2 N (List.mem_append_right _ hN)⟩
   obtain ⟨-,k2,p2,e2⟩:=k.gr (x:=x) f (hx x (List.mem_cons_self ..))
   have hp:((X.filter (fun x=>V.has x.m)).map Le.m++(V.gr x).al).Perm (x.m::(X.filter (fun x=>V.has x.m)).map Le.m++V.al):=(p2.append_left _).trans List.perm_middle
   obtain ⟨V',k3,e3,q1,q2,q3,q4,q5,q6⟩:=glF_ok X (V.gr x) k2 (fun y hy=>hx y (List.mem_cons_of_mem _ hy)) (gd_perm hp.symm hg) (by rw [e2,kIns_len];show V.L.length+(V.l.length+1)+(X.filter (fun x=>V.has x.m)).length≤V.n;omega)
   have e1:glF V.sh (x::X)=glF (V.gr x).sh X:=by
    show glF (V.sh.gl x) X=_
    rw [gl_yes (show wi x.m.rt V.sh.lo V.sh.hi=true from h)];rfl
   refine ⟨V',k3,e1.trans e3,q1,q2,q3,q4,q5,q6.trans ?_⟩
   rw [e2]
   exact ((kIns_perm V.l x).append_left _).trans List.perm_middle
  ·have h' : V.has x.m=false:=by simpa using h
   rw [List.filter_cons_of_neg (p:=fun x:Le=>V.has x.m) h] at hg hr ⊢
   have e1:glF V.sh (x::X)=glF V.sh X:=by
    show glF (V.sh.gl x) X=_
    rw [gl_no (show wi x.m.rt V.sh.lo V.sh.hi=false from h')]
   rw [e1]
   exact glF_ok X V k (fun y hy=>hx y (List.mem_cons_of_mem _ hy)) hg hr
/-- Gathering from a valid shard into a valid one, where there is room and no ID twice. -/
theorem gth_ok {V F:Vs} (k:V.Ok) (kf:F.Ok) (hg:Gd ((F.l.filter (fun x=>V.has x.m)).map Le.m++(F.L.filter V.has++V.al))) (hr:V.L.length+V.l.length+(F.L.filter V.has).length+(F.l.filter (fun x=>V.has x.m)).length≤V.n) :
  ∃ V' : Vs,V'.Ok∧gthF V.sh F.sh=V'.sh∧V'.lo=V.lo∧V'.hi=V.hi∧V'.n=V.n∧V'.hd=V.hd∧V'.L=V.L++F.L.filter V.has∧V'.l.Perm (F.l.filter (fun x=>V.has x.m)++V.l):=by
 have hL:lsF F.sh.cs F.sh.hd F.sh.sz=F.L:=kf.ls
 obtain ⟨e1,k1⟩:=gpF_ok F.L V k (gd_sub (List.sublist_append_right _ _) hg) (by omega)
 have hal:(V.ring (V.L++F.L.filter V.has)).al=V.L++F.L.filter V.has++V.l.map Le.m:=rfl
 have hp:(F.L.filter V.has++V.al).Perm (V.ring (V.L++F.L.filter V.has)).al:=by
  rw [hal]
  show (F.L.filter V.has++(V.L++V.l.map Le.m)).Perm _
  rw [←List.append_assoc]
  exact List.perm_append_comm.append_right _
 obtain ⟨V',k2,e2,q1,q2,q3,q4,q5,q6⟩:=glF_ok F.l (V.ring (V.L++F.L.filter V.has)) k1 (fun x hx=>kf.tb.ok x hx) (gd_perm (hp.append_left _) hg) (by show (V.L++F.L.filter V.has).length+V.l.length+(F.l.filter (fun x=>V.has x.m)).length≤V.n;simp;omega)
 refine ⟨V',k2,?_,q1,q2,q3,q4,q5,q6⟩
 unfold gthF
 rw [hL,e1]
 exact e2
end
end Go.Proofs.YtncgbldcjfbknaaGreat
namespace Go.Proofs.YtncgbldcjfbknaaGreat
open Go.RowKit
set_option linter.unusedVariables false
/-- The boxes of gather: the shard, the other shard, the result. -/
structure GtAt (w:World) (p f r:Nat) (S F:Sh) (D E:Sx) (W:World):Prop where
 sa:SAt w p S D W
 fa:SAt w f F E W
 rs:SB8 W r zS zX
 ne:p<f∧f<r
 eo:SOff F E p
 ro:SOff S D r
section
variable {w W W' : World} {p f r:Nat} {S F:Sh} {D E:Sx}
theorem GtAt.below (h:GtAt w p f r S F D E W) (hb:Below W.heap.size W W'):GtAt w p f r S F D E W':=
 ⟨h.sa.below hb,h.fa.below hb,h.rs.up hb,h.ne,h.eo,h.ro⟩
theorem GtAt.alloc (h:GtAt w p f r S F D E W) (o:Obj):GtAt w p f r S F D E (W.alloc o):=h.below ((Below.refl _ _).alloc (Nat.le_refl _) o)
theorem GtAt.setRing {A:Option Addr} {c:Nat} {cs:List Msg} (h:GtAt w p f r S F D E W) (hd sz:Int) (hl:Ls W W.heap.size (.slice A cs.length c) cs) (ho:OffB p cs.length A) (hr:OffB r cs.length A) :
  GtAt w p f r ⟨S.lv,S.lo,S.hi,cs,hd,sz,S.l,S.h⟩ F ⟨A,c,D.A2,D.c2,D.A3,D.c3⟩ E (((W.setCell ⟨p,3,none⟩ (.slice A cs.length c)).setCell ⟨p,4,none⟩ (.int .i64 hd)).setCell ⟨p,5,none⟩ (.int .i64 sz)):=by
 have hne:=h.ne
 have hold:=h.sa.old
 exact ⟨h.sa.setRing hd sz hl ho,((h.fa.other (q:=⟨p,3,none⟩) (show p≠f by omega) h.eo hold _).other (q:=⟨p,4,none⟩) (show p≠f by omega) h.eo hold _).other (q:=⟨p,5,none⟩) (show p≠f by omega) h.eo hold _,
  ((h.rs.other (q:=⟨p,3,none⟩) (show p≠r by omega) _).other (q:=⟨p,4,none⟩) (show p≠r by omega) _).other (q:=⟨p,5,none⟩) (show p≠r by omega) _,h.ne,h.eo,⟨hr,h.ro.o2,h.ro.o3⟩⟩
theorem GtAt.setTab {A2 A3:Option Addr} {c2 c3:Nat} {l:List Le} {hh:List Du} (h:GtAt w p f r S F D E W) (hl:El W W.heap.size (.slice A2 l.length c2) l) (hd:Dl W W.heap.size (.slice A3 hh.length c3) hh) (o2:OffB p l.length A2) (o3:OffB p hh.length A3) (r2:OffB r l.length A2) (r3:OffB r hh.length A3) :
  GtAt w p f r ⟨S.lv,S.lo,S.hi,S.cs,S.hd,S.sz,l,hh⟩ F ⟨D.A,D.c,A2,c2,A3,c3⟩ E ((W.setCell ⟨p,6,none⟩ (.slice A2 l.length c2)).setCell ⟨p,7,none⟩ (.slice A3 hh.length c3)):=by
 have hne:=h.ne
 have hold:=h.sa.old
 exact ⟨h.sa.setTab hl hd o2 o3,(h.fa.other (q:=⟨p,6,none⟩) (show p≠f by omega) h.eo hold _).other (q:=⟨p,7,none⟩) (show p≠f by omega) h.eo hold _,
  (h.rs.other (q:=⟨p,6,none⟩) (show p≠r by omega) _).other (q:=⟨p,7,none⟩) (show p≠r by omega) _,h.ne,h.eo,⟨h.ro.o1,r2,r3⟩⟩
end
/-- Where the lists of a shard lie after a turn: new, or as before. -/
def Sx.from (D D' : Sx) (lo:Nat):Prop:=∀ n,n≤lo→D.nw n→D'.nw n
/-- What gather returns. -/
def GA (w:World) (D:Sx) (S:Sh) (e:Ending) (w' : World):Prop:=∃ D',e=.returned (sv S D')∧D.from D' w.heap.size∧SR w' w'.heap.size S D'∧Below w.heap.size w w'
theorem Sx.from.refl (D:Sx) (lo:Nat):D.from D lo:=fun _ _ h=>h
theorem Sx.from.ring {D D' : Sx} {lo lo' : Nat} {A:Option Addr} {c:Nat} (h:D.from D' lo) (hn:Nw lo' A) (hl:lo≤lo'):D.from ⟨A,c,D'.A2,D'.c2,D'.A3,D'.c3⟩ lo:=fun n hn' hd=>⟨nw_low hn (by omega),(h n hn' hd).n2,(h n hn' hd).n3⟩
theorem Sx.from.tab {D D' : Sx} {lo lo' : Nat} {A2 A3:Option Addr} {c2 c3:Nat} (h:D.from D' lo) (h2:Nw lo' A2) (h3:Nw lo' A3) (hl:lo≤lo'):D.from ⟨D'.A,D'.c,A2,c2,A3,c3⟩ lo:=fun n hn' hd=>⟨(h n hn' hd).n1,nw_low h2 (by omega),nw_low h3 (by omega)⟩
set_option maxHeartbeats 8000000 in
set_option maxRecDepth 20000 in
theorem gather_any (S F:Sh) (D E:Sx) (w:World) (hs:SR w w.heap.size S D) (hf:SR w w.heap.size F E) (h12:F.l.length≤1000) (h11:(lsF F.cs F.hd F.sz).length≤1000) :
  Calls Tryz.prog 67 #[sv S D,sv F E] w (GA w D (gthF S F)):=by
 have HG0:=Lh (show GtAt w w.heap.size (w.heap.size+1) (w.heap.size+1+1) S F D E (((w.alloc (.cells #[.bool S.lv,.int .i64 S.lo,.int .i64 S.hi,.slice D.A S.cs.length D.c,.int .i64 S.hd,.int .i64 S.sz,.slice D.A2 S.l.length D.c2,.slice D.A3 S.h.length D.c3] 33)).alloc (.cells #[.bool F.lv,.int .i64 F.lo,.int .i64 F.hi,.slice E.A F.cs.length E.c,.int .i64 F.hd,.int .i64 F.sz,.slice E.A2 F.l.length E.c2,.slice E.A3 F.h.length E.c3] 33)).alloc (.cells #[.bool false,.int .i64 0,.int .i64 0,.slice none 0 0,.int .i64 0,.int .i64 0,.slice none 0 0,.slice none 0 0] 33)) from by
  have a1:=SAt.start 33 hs
  have b1:Below w.heap.size w (w.alloc (.cells #[.bool S.lv,.int .i64 S.lo,.int .i64 S.hi,.slice D.A S.cs.length D.c,.int .i64 S.hd,.int .i64 S.sz,.slice D.A2 S.l.length D.c2,.slice D.A3 S.h.length D.c3] 33)):=(Below.refl _ _).alloc (Nat.le_refl _) _
  have a2:=SAt.start 33 (hf.up b1)
  have a3:=SB8.zero ((w.alloc (.cells #[.bool S.lv,.int .i64 S.lo,.int .i64 S.hi,.slice D.A S.cs.length D.c,.int .i64 S.hd,.int .i64 S.sz,.slice D.A2 S.l.length D.c2,.slice D.A3 S.h.length D.c3] 33)).alloc (.cells #[.bool F.lv,.int .i64 F.lo,.int .i64 F.hi,.slice E.A F.cs.length E.c,.int .i64 F.hd,.int .i64 F.sz,.slice E.A2 F.l.length E.c2,.slice E.A3 F.h.length E.c3] 33)) 33
  have e1:(w.alloc (.cells #[.bool S.lv,.int .i64 S.lo,.int .i64 S.hi,.slice D.A S.cs.length D.c,.int .i64 S.hd,.int .i64 S.sz,.slice D.A2 S.l.length D.c2,.slice D.A3 S.h.length D.c3] 33)).heap.size=w.heap.size+1:=by simp
  rw [e1] at a2
  refine ⟨(a1.alloc _).alloc _,?_,by simpa using a3,⟨by omega,by omega⟩,hf.offs (Nat.le_refl _),hs.offs (by omega)⟩
  have a2':=a2.alloc (.cells #[.bool false,.int .i64 0,.int .i64 0,.slice none 0 0,.int .i64 0,.int .i64 0,.slice none 0 0,.slice none 0 0] 33)
  exact ⟨a2'.s8,a2'.sr,a2'.off,b1.trans (a2'.bel.mono b1.size),by have:=a2'.old;rw [e1] at this;omega⟩)
 have HN0:=Lh (show SOff S D (w.heap.size+1+1)∧SOff F E (w.heap.size+1+1) from ⟨hs.offs (by omega),hf.offs (by omega)⟩)
 obtain ⟨P,hP⟩:∃ P,P=gthF S F:=⟨_,rfl⟩
 have HPP:=Lh (show P=glF (gpF S (lsF F.cs F.hd F.sz)) F.l from hP)
 rw [←hP]
 have HGL:=Lh (fun W (q:SR W W.heap.size F E)=>glist_any E.A F.cs.length E.c F.cs F.hd F.sz W q.ls)
 have HTN:=Lh (fun k (hk:k<(lsF F.cs F.hd F.sz).length)=>gpF_next (S:=S) hk)
 have HT0:=Lh (show gpF S ((lsF F.cs F.hd F.sz).take (lsF F.cs F.hd F.sz).length)=gpF S (lsF F.cs F.hd F.sz) by rw [List.take_length])
 clear hP hs hf
 generalize lsF F.cs F.hd F.sz=T at*
 have HTL:=Lh h11
 have HFL:=Lh h12
 clear h11 h12
 go_enter Tryz.func67,Tryz.ntmps67
 obtain ⟨p,hp⟩:∃ p,p=w.heap.size:=⟨_,rfl⟩
 obtain ⟨f,hf⟩:∃ p,p=w.heap.size+1:=⟨_,rfl⟩
 obtain ⟨r,hr⟩:∃ p,p=w.heap.size+1+1:=⟨_,rfl⟩
 go_upto_region 1 with (fail)
 rw [←hr,←hf,←hp]
 rw [←hr,←hf,←hp] at HG0
 rw [←hr] at HN0
 have HPW:=Lh (show w.heap.size≤p∧w.heap.size≤r by omega)
 clear hp hf hr
 generalize (((w.alloc (.cells #[.bool S.lv,.int .i64 S.lo,.int .i64 S.hi,.slice D.A S.cs.length D.c,.int .i64 S.hd,.int .i64 S.sz,.slice D.A2 S.l.length D.c2,.slice D.A3 S.h.length D.c3] 33)).alloc (.cells #[.bool F.lv,.int .i64 F.lo,.int .i64 F.hi,.slice E.A F.cs.length E.c,.int .i64 F.hd,.int .i64 F.sz,.slice E.A2 F.l.length E.c2,.slice E.A3 F.h.length E.c3] 33)).alloc (.cells #[.bool false,.int .i64 0,.int .i64 0,.slice none 0 0,.int .i64 0,.int .i64 0,.slice none 0 0,.slice none 0 0] 33))=w1 at*
 obtain ⟨t0,t1,t2,t3,t4,t5,t6,t7,tl⟩:=HG0.out.fa.s8.facts
 go_wp2_with fail
 clear t0 t1 t2 t3 t4 t5 t6 t7 tl
 refine (HGL.out _ HG0.out.fa.sr).mono ?_
 rintro e w2 ⟨v2,rfl,hn2,hl2,hb⟩
 obtain ⟨A0,c0,rfl,-,-⟩:=id hl2
 have HO2:=Lh (show OffB p T.length A0 from offb_nw (nwv_of hn2) HG0.out.sa.lt)
 have HG2:=Lh (HG0.out.below hb)
 have HL2:=Lh hl2
 have HB2:=Lh (HG2.out.fa.bel)
 clear hn2 hl2 hb HG0
 go_wp2
 go_loopw [6,13] (fun _ i wr=>∃ (k:Nat) (S1:Sh) (D1:Sx),k≤T.length∧i=.int .i64 k∧Hid (S1=gpF S (T.take k))∧Hid (GtAt w p f r S1 F D1 E wr)∧Hid (Ls wr wr.heap.size (.slice A0 T.length c0) T)∧Hid (D.from D1 w.heap.size)∧Hid (OffB p T.length A0)) (fun _ i _=>T.length - (intOf i).toNat)
 case atStart=>exact ⟨0,S,D,Nat.zero_le _,rfl,Lh rfl,HG2,HL2,Lh (Sx.from.refl D _),HO2⟩
 case round=>
  clear HG2 HL2
  obtain ⟨k,S1,D1,hk,rfl,HS,HG,HL,HD,HO⟩:=hrel
  by_cases hlt:k<T.length
  ·obtain ⟨b,o,rfl,hbl,c0',c1',c2',c3',c4',c5',c6'⟩:=HL.out.at_ hlt
   have HTK:=Lh (HTN.out k hlt)
   generalize T[k]=X at*
   have hl64:(T.length:Int)≤1000:=by have:=HTL.out;omega
   have HGA:=Lh (HG.out.alloc (.cells #[.int .i64 X.id,.int .i64 X.rt,.int .i64 X.ep,.int .i64 X.ct,.int .i64 X.gn,.int .i64 X.st,.string X.bd] 56))
   have HMX:=Lh (MBx.start wr X 56)
   have HLA:=Lh (HL.out.up ((Below.refl _ _).alloc (Nat.le_refl _) (.cells #[.int .i64 X.id,.int .i64 X.rt,.int .i64 X.ep,.int .i64 X.ct,.int .i64 X.gn,.int .i64 X.st,.string X.bd] 56)))
   have HPQ:=Lh (show ¬wr.heap.size=p∧¬p=wr.heap.size by have:=HG.out.sa.lt;omega)
   obtain ⟨t0,t1,t2,t3,t4,t5,t6,t7,tl⟩:=HG.out.sa.s8.facts
   go_wp2_with fail
   clear t0 t1 t2 t3 t4 t5 t6 t7 tl c0' c1' c2' c3' c4' c5' c6' hbl HG HL
   obtain ⟨q,hq⟩:∃ q,q=wr.heap.size:=⟨_,rfl⟩
   rw [←hq] at HMX HPQ ⊢
   clear hq
   generalize wr.alloc (.cells #[.int .i64 X.id,.int .i64 X.rt,.int .i64 X.ep,.int .i64 X.ct,.int .i64 X.gn,.int .i64 X.st,.string X.bd] 56)=wa at*
   refine (shas_any S1 D1 X.rt wa).mono ?_
   rintro e w3 ⟨rfl,hb⟩
   have HG3:=Lh (HGA.out.below hb)
   have HM3:=Lh (HMX.out.up hb)
   have HL3:=Lh (HLA.out.up hb)
   clear hb HGA HMX HLA
   cases hw:wi X.rt S1.lo S1.hi with
   | false=>
    have HS4:=Lh (show S1=gpF S (T.take (k+1)) by rw [HTK.out,←HS.out,gp_no hw])
    clear hw
    go_wp2
    go_roundw
    case rel=>exact ⟨k+1,S1,D1,by omega,by go_num,HS4,HG3,HL3,HD,HO⟩
    case measure=>simp [intOf];omega
   | true=>
    have HS4:=Lh (show S1.psh X=gpF S (T.take (k+1)) by rw [HTK.out,←HS.out,gp_yes hw])
    have HPB:=Lh (pback_any D1.A S1.cs.length D1.c S1.cs S1.hd S1.sz X w3 HG3.out.sa.sr.ls)
    obtain ⟨S2,hS2⟩:∃ S2,S2=S1.psh X:=⟨_,rfl⟩
    rw [←hS2] at HS4
    have HS2:=Lh (show S2=⟨S1.lv,S1.lo,S1.hi,pbC S1.cs S1.hd S1.sz X,ifE (puE S1.cs S1.hd S1.sz X) S1.hd,ifE (puE S1.cs S1.hd S1.sz X) (S1.sz+1),S1.l,S1.h⟩ from hS2)
    clear hS2 hw
    generalize pbC S1.cs S1.hd S1.sz X=xs at*
    generalize ifE (puE S1.cs S1.hd S1.sz X) S1.hd=xh at*
    generalize ifE (puE S1.cs S1.hd S1.sz X) (S1.sz+1)=xz at*
    generalize puE S1.cs S1.hd S1.sz X=xe at*
    obtain ⟨t0,t1,t2,t3,t4,t5,t6,t7,tl⟩:=HG3.out.sa.s8.facts
    obtain ⟨v0,v1,v2,v3,v4,v5,v6⟩:=HM3.out.m7
    have vl:=HM3.out.lt
    go_wp2_with fail
    clear t0 t1 t2 t3 t4 t5 t6 t7 tl v0 v1 v2 v3 v4 v5 v6 vl
    refine HPB.out.mono ?_
    rintro e w5 ⟨A5,c5,rfl,hn,hl,hb⟩
    have HG5:=Lh (HG3.out.below hb)
    have HL5:=Lh (HL3.out.up hb)
    have HG6:=Lh (show GtAt w p f r S2 F ⟨A5,c5,D1.A2,D1.c2,D1.A3,D1.c3⟩ E (((w5.setCell ⟨p,3,none⟩ (.slice A5 xs.length c5)).setCell ⟨p,4,none⟩ (.int .i64 xh)).setCell ⟨p,5,none⟩ (.int .i64 xz)) from by
     rw [HS2.out]
     exact HG5.out.setRing xh xz hl (offb_nw hn HG3.out.sa.lt) (offb_nw hn HG3.out.rs.lt))
    have HL6:=Lh (((HL5.out.offp (p:=⟨p,3,none⟩) HO.out (.slice A5 xs.length c5)).offp (p:=⟨p,4,none⟩) HO.out (.int .i64 xh)).offp (p:=⟨p,5,none⟩) HO.out (.int .i64 xz))
    have HL7:=Lh (show Ls (((w5.setCell ⟨p,3,none⟩ (.slice A5 xs.length c5)).setCell ⟨p,4,none⟩ (.int .i64 xh)).setCell ⟨p,5,none⟩ (.int .i64 xz)) (((w5.setCell ⟨p,3,none⟩ (.slice A5 xs.length c5)).setCell ⟨p,4,none⟩ (.int .i64 xh)).setCell ⟨p,5,none⟩ (.int .i64 xz)).heap.size (.slice (some ⟨b,o,none⟩) T.length c0) T from HL6.out.more (by simp))
    have HD5:=Lh (show D.from ⟨A5,c5,D1.A2,D1.c2,D1.A3,D1.c3⟩ w.heap.size from HD.out.ring hn HG3.out.sa.bel.size)
    obtain ⟨⟨t0,t1,t2,t3,t4,t5,t6,t7,tl⟩,⟨f0,f1,f2,f3,f4,f5,f6,f7⟩⟩:=HG5.out.sa.s8.all
    clear hn hl hb HG5 HL5 HL6
    go_wp2
    go_roundw
    case rel=>exact ⟨k+1,S2,_,by omega,by go_num,HS4,HG6,HL7,HD5,HO⟩
    case measure=>simp [intOf];omega
  ·obtain rfl:k=T.length:=by omega
   obtain ⟨U,hU⟩:∃ U,U=gpF S T:=⟨_,rfl⟩
   have HS1:=Lh (show S1=glF U (F.l.take 0) from by rw [HS.out,HT0.out,hU];rfl)
   have HPF:=Lh (show P=glF U F.l from by rw [HPP.out,hU])
   clear HS HT0 HTN HPP hU HL HO hk hlt
   obtain ⟨X2,hX2⟩:∃ X2,X2=F.l:=⟨_,rfl⟩
   have HXL:=Lh (show X2.length≤1000 by rw [hX2];exact HFL.out)
   have HXN:=Lh (fun k (hk:k<X2.length)=>glF_next (S:=U) hk)
   have HX0:=Lh (show glF U (X2.take X2.length)=glF U X2 by rw [List.take_length])
   obtain ⟨Ax,hAx⟩:∃ A,A=E.A2:=⟨_,rfl⟩
   have HEL2:=Lh (fun S1 D1 W (q:GtAt w p f r S1 F D1 E W)=>show El W W.heap.size (.slice Ax X2.length E.c2) X2 by rw [hX2,hAx];exact q.fa.sr.el)
   obtain ⟨t0,t1,t2,t3,t4,t5,t6,t7,tl⟩:=HG.out.fa.s8.facts
   rw [←hX2] at t6 HS1 HPF
   rw [←hAx] at t6
   clear hX2 hAx HFL HTL HGL
   go_wp2
   clear t0 t1 t2 t3 t4 t5 t6 t7 tl
   go_loopw [8,34] (fun _ i wr=>∃ (k:Nat) (S1:Sh) (D1:Sx),k≤X2.length∧i=.int .i64 k∧Hid (S1=glF U (X2.take k))∧Hid (GtAt w p f r S1 F D1 E wr)∧Hid (D.from D1 w.heap.size)) (fun _ i _=>X2.length - (intOf i).toNat)
   case atStart=>exact ⟨0,S1,D1,Nat.zero_le _,rfl,HS1,HG,HD⟩
   case round=>
    clear HG HD HS1
    obtain ⟨k,S1,D1,hk,rfl,HS,HG,HD⟩:=hrel
    by_cases hlt:k<X2.length
    ·obtain ⟨b,o,rfl,hbl,c0',c1',c2',c3',c4',c5',c6',c7'⟩:=(HEL2.out _ _ _ HG.out).at_ hlt
     have HTK:=Lh (HXN.out k hlt)
     generalize X2[k]=X at*
     have hl64:(X2.length:Int)≤1000:=by have:=HXL.out;omega
     have HGA:=Lh (HG.out.alloc (.cells #[.int .i64 X.m.id,.int .i64 X.m.rt,.int .i64 X.m.ep,.int .i64 X.m.ct,.int .i64 X.m.gn,.int .i64 X.m.st,.string X.m.bd,.int .i64 X.dl] 58))
     have HMX:=Lh (El8.start wr X 58)
     have HPQ:=Lh (show ¬wr.heap.size=p∧¬p=wr.heap.size by have:=HG.out.sa.lt;omega)
     obtain ⟨t0,t1,t2,t3,t4,t5,t6,t7,tl⟩:=HG.out.sa.s8.facts
     go_wp2_with fail
     clear t0 t1 t2 t3 t4 t5 t6 t7 tl c0' c1' c2' c3' c4' c5' c6' c7' hbl HG
     obtain ⟨q,hq⟩:∃ q,q=wr.heap.size:=⟨_,rfl⟩
     rw [←hq] at HMX HPQ ⊢
     clear hq
     generalize wr.alloc (.cells #[.int .i64 X.m.id,.int .i64 X.m.rt,.int .i64 X.m.ep,.int .i64 X.m.ct,.int .i64 X.m.gn,.int .i64 X.m.st,.string X.m.bd,.int .i64 X.dl] 58)=wa at*
     refine (shas_any S1 D1 X.m.rt wa).mono ?_
     rintro e w3 ⟨rfl,hb⟩
     have HG3:=Lh (HGA.out.below hb)
     have HM3:=Lh (HMX.out.below hb HMX.out.2.2.2.2.2.2.2.2)
     have HML:=Lh (show q<w3.heap.size from Nat.lt_of_lt_of_le HMX.out.2.2.2.2.2.2.2.2 hb.size)
     clear hb HGA HMX
     cases hw:wi X.m.rt S1.lo S1.hi with
     | false=>
      have HS4:=Lh (show S1=glF U (X2.take (k+1)) by rw [HTK.out,←HS.out,gl_no hw])
      clear hw
      go_wp2
      go_roundw
      case rel=>exact ⟨k+1,S1,D1,by omega,by go_num,HS4,HG3,HD⟩
      case measure=>simp [intOf];omega
     | true=>
      have HS4:=Lh (show S1.gra X=glF U (X2.take (k+1)) by rw [HTK.out,←HS.out,gl_yes hw])
      have HGR:=Lh (lgrant_any D1.A2 S1.l.length D1.c2 S1.l D1.A3 S1.h.length D1.c3 S1.h X w3 HG3.out.sa.sr.el HG3.out.sa.sr.dl)
      obtain ⟨S2,hS2⟩:∃ S2,S2=S1.gra X:=⟨_,rfl⟩
      rw [←hS2] at HS4
      have HS2:=Lh (show S2=⟨S1.lv,S1.lo,S1.hi,S1.cs,S1.hd,S1.sz,grL S1.l S1.h X,grH S1.l S1.h X⟩ from hS2)
      clear hS2 hw
      generalize grL S1.l S1.h X=gl at*
      generalize grH S1.l S1.h X=gh at*
      generalize grE S1.l S1.h X=ge' at*
      obtain ⟨t0,t1,t2,t3,t4,t5,t6,t7,tl⟩:=HG3.out.sa.s8.facts
      obtain ⟨v0,v1,v2,v3,v4,v5,v6,v7,-⟩:=HM3.out
      have vl:=HML.out
      go_wp2_with fail
      clear t0 t1 t2 t3 t4 t5 t6 t7 tl v0 v1 v2 v3 v4 v5 v6 v7 vl
      refine HGR.out.mono ?_
      rintro e w5 ⟨A8,c8,A9,c9,rfl,n8,n9,h8,h9,hb⟩
      have HG5:=Lh (HG3.out.below hb)
      have HG6:=Lh (show GtAt w p f r S2 F ⟨D1.A,D1.c,A8,c8,A9,c9⟩ E ((w5.setCell ⟨p,6,none⟩ (.slice A8 gl.length c8)).setCell ⟨p,7,none⟩ (.slice A9 gh.length c9)) from by
       rw [HS2.out]
       exact HG5.out.setTab h8 h9 (offb_nw n8 HG3.out.sa.lt) (offb_nw n9 HG3.out.sa.lt) (offb_nw n8 HG3.out.rs.lt) (offb_nw n9 HG3.out.rs.lt))
      have HD5:=Lh (show D.from ⟨D1.A,D1.c,A8,c8,A9,c9⟩ w.heap.size from HD.out.tab n8 n9 HG3.out.sa.bel.size)
      obtain ⟨⟨t0,t1,t2,t3,t4,t5,t6,t7,tl⟩,⟨f0,f1,f2,f3,f4,f5,f6,f7⟩⟩:=HG5.out.sa.s8.all
      clear n8 n9 h8 h9 hb HG5
      go_wp2
      go_roundw
      case rel=>exact ⟨k+1,S2,_,by omega,by go_num,HS4,HG6,HD5⟩
      case measure=>simp [intOf];omega
    ·obtain rfl:k=X2.length:=by omega
     have HF:=Lh (show GA w D P (.returned (sv S1 D1)) (set8s wr r S1 D1) from by
      rw [HPF.out,←HX0.out,←HS.out]
      exact ⟨D1,rfl,HD.out,SR.sets HG.out.ro (S1.l8 D1) 0 wr HG.out.sa.sr,set8s_below HPW.out.2 HG.out.sa.bel S1 D1⟩)
     have HPR:=Lh (show ¬p=r∧¬r=p by have:=HG.out.ne;omega)
     obtain ⟨⟨t0,t1,t2,t3,t4,t5,t6,t7,tl⟩,⟨f0,f1,f2,f3,f4,f5,f6,f7⟩⟩:=HG.out.sa.s8.all
     obtain ⟨⟨r0,r1,r2,r3,r4,r5,r6,r7,rl⟩,⟨g0,g1,g2,g3,g4,g5,g6,g7⟩⟩:=HG.out.rs.all
     obtain ⟨hpr,hrp⟩:=HPR.out
     go_wp2
     exact bodyPost_ret (v:=sv S1 D1) (by simp only [results,Tryz.results67];go_simp <;> rfl) rfl HF.out
theorem info_m8:(Tryz.prog.info? 56).map (fun i=>(i.zero,i.size,i.bytes))=some (some (Msg.v zM),7,64):=by kernel_rfl
/-- slices.Grow of nil by 0: nil. -/
theorem mgrow_none (w:World):Calls Tryz.prog 171 #[.slice none 0 0,.int .i64 0] w fun e w'=>e=.returned (.slice none 0 0)∧w=w':=by
 go_enter Tryz.func171,Tryz.ntmps171
 go_wp2
 go_ret
 exact ⟨rfl,rfl⟩
set_option maxHeartbeats 1000000 in
/-- slices.Grow of nil by n > 0: an empty row of its own. -/
theorem mgrow_some (n:Nat) (w:World) (h0:0<n) (hn:n≤1000000):Calls Tryz.prog 171 #[.slice none 0 0,.int .i64 n] w fun e w'=>
  ∃ v,e=.returned v∧w'.ownsRow w.heap.size 56 7 v 0 []∧Below w.heap.size w w':=by
 obtain ⟨i0,hi0,hzz⟩:=Option.map_eq_some_iff.1 info_m8
 simp only [Prod.mk.injEq] at hzz
 obtain ⟨hz0,hz1,hz2⟩:=hzz
 have h1:¬((n:Int)<0):=by omega
 have h4:(n:Int) > 0:=by omega
 have hold:(Builtin.firstCells i0.size 0 (.slice none 0 0)).run Tryz.prog w.drew=.ok #[] w.drew:=run_firstCells_none w.drew i0.size 0 0 0
 have hrz:∀ ty,(Builtin.append_ #[25,3] ty #[.slice none 0 0,.int .i64 (n:Int)]).run Tryz.prog w =
   .ok (.slice (some ⟨w.heap.size,0,none⟩) n (grownCap w n 0 56)) (w.drew.alloc (.cells (#[]++Builtin.zeroCells (Msg.v zM).cells n++Builtin.zeroCells (Msg.v zM).cells (grownCap w n 0 56 - n)) 56)):=fun ty=>by
  have h:=Lib.run_append_grow_zeros (P:=Tryz.prog) w 25 3 ty 56 i0 (Msg.v zM) .i64 .i64 Tryz.underlying25 Tryz.underlying3 hi0 hz0 none 0 0 [] hold n (by omega) (by omega) (by omega) (by omega)
   (by rw [hz2];omega)
   (by rw [Nat.zero_add];exact growslice_fits (by omega) (by rw [hz2];omega))
  simpa only [Nat.zero_add] using h
 have hGn:n≤grownCap w n 0 56:=grownCap_ge w _ _ _
 have hGm:grownCap w n 0 56≤maxLen:=grownCap_le_maxLen w n 0 56 (by unfold maxLen;omega)
 obtain ⟨G,hG⟩:∃ G,G=grownCap w n 0 56:=⟨_,rfl⟩
 rw [←hG] at hrz hGn hGm
 have hG63:G≤9223372036854775807:=by unfold maxLen at hGm;omega
 have HM:=Lh hGm
 clear hold hG hGm
 go_enter Tryz.func171,Tryz.ntmps171
 go_wp2_with (at_builtin;refine Lib.wpList_append_run _ rfl _ _ _ _ rfl _ _ rfl rfl _ _ (hrz _) ?_)
 go_ret
 refine ⟨_,rfl,?_,?_⟩
 ·exact World.ownsRow_made (w:=w.drew) _ G (Nat.le_refl _) HM.out (by simp [Builtin.zeroCells];omega)
 ·exact (Below.refl _ _).drew.alloc (Nat.le_refl _) _
theorem mgrow_any (n:Nat) (w:World) (hn:n≤1000000):Calls Tryz.prog 171 #[.slice none 0 0,.int .i64 n] w fun e w'=>
  ∃ v,e=.returned v∧w'.ownsRow w.heap.size 56 7 v 0 []∧Below w.heap.size w w':=by
 rcases Nat.eq_zero_or_pos n with rfl | h
 ·exact (mgrow_none w).mono fun _ _ ⟨he,hw⟩=>⟨_,he,by subst hw;exact World.ownsRow_nil _ _ _ _,by subst hw;exact Below.refl _ _⟩
 ·exact mgrow_some n w h hn
/-- The bytes of a list of slices. -/
def mtot:List (Value×List Msg)→List Msg
 | []=>[]
 | p::r=>p.2++mtot r
theorem mtot_take (ps:List (Value×List Msg)) (k:Nat) (h:k<ps.length):mtot (ps.take (k+1))=mtot (ps.take k)++ps[k].2:=by
 induction ps generalizing k with
 | nil=>simp at h
 | cons p r ih=>
  cases k with
  | zero=>simp [mtot]
  | succ k=>simp only [List.take_succ_cons,mtot,List.getElem_cons_succ,List.append_assoc];rw [ih k (by simpa using h)]
theorem mtot_le (ps:List (Value×List Msg)) (k:Nat):(mtot (ps.take k)).length≤(mtot ps).length:=by
 induction ps generalizing k with
 | nil=>simp [mtot]
 | cons p r ih=>
  cases k with
  | zero=>simp [mtot]
  | succ k=>simp only [List.take_succ_cons,mtot,List.length_append];have:=ih k;omega
set_option maxRecDepth 20000 in
set_option maxHeartbeats 2000000 in
theorem mconcat_any (vb vo c:Nat) (ps:List (Value×List Msg)) (w:World) (hb:vb<w.heap.size) (hc:∀ k (h:k<ps.length),w.cell? ⟨vb,vo+k,none⟩=some ps[k].1)
  (hps:∀ k (h:k<ps.length),Ls w w.heap.size ps[k].1 ps[k].2) (hn:ps.length≤1024) (ht:(mtot ps).length≤1000000) :
  Calls Tryz.prog 119 #[.slice (some ⟨vb,vo,none⟩) ps.length c] w fun e w'=>
   ∃ v,e=.returned v∧w'.ownsRow w.heap.size 56 7 v (mtot ps).length (lcs (mtot ps))∧Below w.heap.size w w':=by
 obtain ⟨i0,hi0,hzz⟩:=Option.map_eq_some_iff.1 info_m8
 simp only [Prod.mk.injEq] at hzz
 obtain ⟨hz0,hz1,hz2⟩:=hzz
 obtain ⟨L,hL⟩:∃ L,L=ps.length:=⟨_,rfl⟩
 have HL:=Lh hL
 rw [←hL]
 have hL' : L≤1024:=by omega
 have HC:=Lh hc
 have HP:=Lh hps
 clear hL hc hps
 go_enter Tryz.func119,Tryz.ntmps119
 go_wp2
 go_loop [3,5,11] (fun s _ i=>∃ k:Nat,k≤L∧i=.int .i64 k∧s=.int .i64 (mtot (ps.take k)).length) (fun _ _ i=>L - (intOf i).toNat)
 case atStart=>exact ⟨0,Nat.zero_le _,rfl,rfl⟩
 case round=>
  obtain ⟨k,hk,rfl,rfl⟩:=hrel
  have hle:=mtot_le ps k
  by_cases hlt:k<L
  ·have hkp:k<ps.length:=by have:=HL.out;omega
   have hcell:=HC.out k hkp
   have HT:=Lh (congrArg List.length (mtot_take ps k hkp))
   have hle1:=mtot_le ps (k+1)
   obtain ⟨A,c1,hA,_,_,hR⟩:=HP.out k hkp
   rw [hA] at hcell
   have HA:=Lh hA
   have HR:=Lh hR
   have hlen:(ps[k].2).length≤1000000:=by have:=HT.out;simp at this;omega
   clear hA hR
   go_wp2
   go_round
   case rel=>exact ⟨k+1,by omega,by go_num,by rw [HT.out];simp⟩
   case measure=>simp [intOf];omega
  ·obtain rfl:k=L:=by omega
   have HE:=Lh (show ps.take k=ps by rw [HL.out];simp)
   have hge:((mtot (ps.take k)).length:Int)≤1000000:=by omega
   go_wp2_with fail
   refine (mgrow_any (mtot (ps.take k)).length w (by omega)).mono ?_
   rintro e w1 ⟨v1,rfl,hown1,hb1⟩
   have Hown1:=Lh hown1
   have Hb1:=Lh hb1
   clear hown1 hb1
   go_wp2
   clear hle hge
   have hk' : k≤1024:=hL'
   go_loopw [6,8,27] (fun s _ i wr=>∃ j:Nat,j≤k∧i=.int .i64 j∧wr.ownsRow w.heap.size 56 7 s (mtot (ps.take j)).length (lcs (mtot (ps.take j)))∧Below w.heap.size w wr) (fun _ _ i _=>k - (intOf i).toNat)
   case atStart=>exact ⟨0,Nat.zero_le _,rfl,Hown1.out,Hb1.out⟩
   case round=>
    obtain ⟨j,hj,rfl,hown,hbel⟩:=hrel
    have hle:=mtot_le ps j
    by_cases hlt:j<k
    ·have hkp:j<ps.length:=by have:=HL.out;omega
     have hcell:=HC.out j hkp
     have HT:=Lh (mtot_take ps j hkp)
     have hle1:=mtot_le ps (j+1)
     obtain ⟨A,c1,hA,_,_,hR⟩:=HP.out j hkp
     rw [hA] at hcell
     have hlen:(mtot (ps.take j)).length+(ps[j].2).length≤1000000:=by have:=congrArg List.length HT.out;simp at this;omega
     rw [←hbel.cell (p:=⟨vb,vo+j,none⟩) hb] at hcell
     have HA:=Lh hA
     have HR:=Lh (hR.below hbel)
     have HO:=Lh hown
     have HB:=Lh hbel
     have hsz:=hbel.size
     clear hA hR hown hbel
     go_wp2_with (at_builtin;refine wpList_append_rd _ rfl _ _ 25 rfl w.heap.size 56 i0 _ 7 64 Tryz.underlying25 hi0 hz0 hz1 hz2 rfl (by omega) _ _ _ rfl HO.out w.heap.size A _ _ _ rfl HR.out (lcs_one _) (by unfold maxLen;omega) (by omega) hsz ?_;intro v2 w2 hown2 hg2 _)
     have hown3:w2.ownsRow w.heap.size 56 7 v2 (mtot (ps.take (j+1))).length (lcs (mtot (ps.take (j+1)))):=by
      rw [HT.out,lcs_app,List.length_append];exact hown2
     have hb3:Below w.heap.size w w2:=HB.out.grown hg2 hsz (fun g hg=>(World.ownsRow.lt HO.out g hg).1)
     have H3:=Lh hown3
     have HB3:=Lh hb3
     clear hown2 hown3 hg2 hb3
     go_wp2
     go_roundw
     case rel=>exact ⟨j+1,by omega,by go_num,H3.out,HB3.out⟩
     case measure=>simp [intOf];omega
    ·obtain rfl:j=k:=by omega
     have HO:=Lh hown
     have HB:=Lh hbel
     clear hown hbel
     go_wp2
     go_ret
     exact ⟨_,rfl,by have:=HO.out;rwa [HE.out] at this,HB.out⟩
/-- Two slices in an array of the call's own. -/
structure Mc2 (W:World) (g:Nat) (v0 v1:Value) (l0 l1:List Msg):Prop where
 c0:W.cell? ⟨g,0,none⟩=some v0
 c1:W.cell? ⟨g,1,none⟩=some v1
 lt:g<W.heap.size
 e0:Ls W W.heap.size v0 l0
 e1:Ls W W.heap.size v1 l1
theorem Mc2.start {w:World} {v0 v1:Value} {l0 l1:List Msg} (t:TypeId) (h0:Ls w w.heap.size v0 l0) (h1:Ls w w.heap.size v1 l1):Mc2 (w.alloc (.cells #[v0,v1] t)) w.heap.size v0 v1 l0 l1:=by
 have hb:=(Below.refl w.heap.size w).alloc (Nat.le_refl _) (.cells #[v0,v1] t)
 refine ⟨?_,?_,by simp,(h0.below hb).more hb.size,(h1.below hb).more hb.size⟩
 ·rw [World.cell?_alloc_new];rfl
 ·rw [World.cell?_alloc_new];rfl
theorem Mc2.concat {W:World} {g:Nat} {v0 v1:Value} {l0 l1:List Msg} (h:Mc2 W g v0 v1 l0 l1) (c:Nat) (ht:l0.length+l1.length≤1000000) :
  Calls Tryz.prog 119 #[.slice (some ⟨g,0,none⟩) 2 c] W fun e w'=>∃ v,e=.returned v∧w'.ownsRow W.heap.size 56 7 v (l0++l1).length (lcs (l0++l1))∧Below W.heap.size W w':=by
 refine (mconcat_any g 0 c [(v0,l0),(v1,l1)] W h.lt ?_ ?_ (by simp) (by simp [mtot];omega)).mono ?_
 ·intro k hk
  rw [Nat.zero_add]
  match k,hk with
  | 0,_=>exact h.c0
  | 1,_=>exact h.c1
 ·intro k hk
  match k,hk with
  | 0,_=>exact h.e0
  | 1,_=>exact h.e1
 ·rintro e w' ⟨v,he,ho,hb⟩
  have ht:mtot [(v0,l0),(v1,l1)]=l0++l1:=by simp [mtot]
  rw [ht] at ho
  exact ⟨v,he,ho,hb⟩
/-- Two boxes of shards. -/
structure T2 (w:World) (p f:Nat) (S F:Sh) (D E:Sx) (W:World):Prop where
 sa:SAt w p S D W
 fa:SAt w f F E W
 ne:p<f
section
variable {w W W' : World} {p f:Nat} {S F:Sh} {D E:Sx}
theorem T2.below (h:T2 w p f S F D E W) (hb:Below W.heap.size W W'):T2 w p f S F D E W':=⟨h.sa.below hb,h.fa.below hb,h.ne⟩
theorem T2.k (h:T2 w p f S F D E W):K8 p S D W∧K8 f F E W:=⟨h.sa.k8,h.fa.k8⟩
theorem T2.start (hs:SR w w.heap.size S D) (hf:SR w w.heap.size F E):T2 w w.heap.size (w.heap.size+1) S F D E ((w.alloc (.cells #[.bool S.lv,.int .i64 S.lo,.int .i64 S.hi,.slice D.A S.cs.length D.c,.int .i64 S.hd,.int .i64 S.sz,.slice D.A2 S.l.length D.c2,.slice D.A3 S.h.length D.c3] 33)).alloc (.cells #[.bool F.lv,.int .i64 F.lo,.int .i64 F.hi,.slice E.A F.cs.length E.c,.int .i64 F.hd,.int .i64 F.sz,.slice E.A2 F.l.length E.c2,.slice E.A3 F.h.length E.c3] 33)):=by
 have a1:=SAt.start 33 hs
 have b1:Below w.heap.size w (w.alloc (.cells #[.bool S.lv,.int .i64 S.lo,.int .i64 S.hi,.slice D.A S.cs.length D.c,.int .i64 S.hd,.int .i64 S.sz,.slice D.A2 S.l.length D.c2,.slice D.A3 S.h.length D.c3] 33)):=(Below.refl _ _).alloc (Nat.le_refl _) _
 have a2:=SAt.start 33 (hf.up b1)
 have e1:(w.alloc (.cells #[.bool S.lv,.int .i64 S.lo,.int .i64 S.hi,.slice D.A S.cs.length D.c,.int .i64 S.hd,.int .i64 S.sz,.slice D.A2 S.l.length D.c2,.slice D.A3 S.h.length D.c3] 33)).heap.size=w.heap.size+1:=by simp
 rw [e1] at a2
 exact ⟨a1.alloc _,⟨a2.s8,a2.sr,a2.off,b1.trans (a2.bel.mono b1.size),by have:=a2.old;rw [e1] at this;omega⟩,by omega⟩
end
set_option maxHeartbeats 8000000 in
set_option maxRecDepth 20000 in
theorem suerr_ok (S F:Sh) (D E:Sx) (w:World) (hs:SR w w.heap.size S D) (hf:SR w w.heap.size F E) (vS:shV S=0) (vF:shV F=0) (lS:S.lv=true) (lF:F.lv=true) (h1:S.hi+1=F.lo) (hh0:0≤S.hi) (hh1:S.hi≤65535)
  (s0:0≤S.sz) (s1:S.sz≤100) (s2:S.l.length≤100) (f0:0≤F.sz) (f1:F.sz≤100) (f2:F.l.length≤100) (hr:S.sz+S.l.length+(F.sz+F.l.length)≤S.cs.length) (hd:dpB (S.al++F.al)=false) (ha:(S.al++F.al).length≤1000) :
  Calls Tryz.prog 70 #[sv S D,sv F E] w (VlT w 0):=by
 have H0:=Lh (T2.start hs hf)
 have HVS:=Lh (fun W (q:T2 w w.heap.size (w.heap.size+1) S F D E W)=>svalid_any S D W q.sa.sr)
 have HVF:=Lh (fun W (q:T2 w w.heap.size (w.heap.size+1) S F D E W)=>svalid_any F E W q.fa.sr)
 rw [vS] at HVS
 rw [vF] at HVF
 have HMS:=Lh (fun W (q:T2 w w.heap.size (w.heap.size+1) S F D E W)=>smsgs_any S D W q.sa.sr (by omega))
 have HMF:=Lh (fun W (q:T2 w w.heap.size (w.heap.size+1) S F D E W)=>smsgs_any F E W q.fa.sr (by omega))
 have HSS:=Lh (fun W=>ssize_any S D W s0 s1 s2)
 have HSF:=Lh (fun W=>ssize_any F E W f0 f1 f2)
 have HCS:=Lh (fun W=>scap_any S D W)
 have HDP:=Lh hd
 have HAN:=Lh (show S.al.length+F.al.length≤1000000 by simp at ha;omega)
 obtain ⟨z1,hz1⟩:∃ z:Int,z=S.sz+S.l.length:=⟨_,rfl⟩
 obtain ⟨z2,hz2⟩:∃ z:Int,z=F.sz+F.l.length:=⟨_,rfl⟩
 rw [←hz1] at HSS
 rw [←hz2] at HSF
 have hw:IntKind.i64.wrap (z1+z2)=z1+z2:=by rw [IntWalk.i64_in _ (by omega)]
 have hgt:decide ((S.cs.length:Int)<z1+z2)=false:=decide_eq_false (by omega)
 have hwh:wrap64 (S.hi+1)=F.lo:=by rw [IntWalk.wrap64_in _ (by omega)];exact h1
 have hne:(F.lo != F.lo)=false:=by simp
 have HLS:=Lh lS
 have HLF:=Lh lF
 clear lS lF hs hf vS vF s0 s1 s2 f0 f1 f2 hr hd ha hz1 hz2 hh0 hh1 h1
 go_enter Tryz.func70,Tryz.ntmps70
 obtain ⟨p,hp⟩:∃ p,p=w.heap.size:=⟨_,rfl⟩
 obtain ⟨f,hf⟩:∃ p,p=w.heap.size+1:=⟨_,rfl⟩
 go_upto_region 1 with (fail)
 rw [←hf,←hp]
 rw [←hf,←hp] at H0
 rw [←hf,←hp] at HVS HVF HMS HMF
 have HPW:=Lh hp
 clear hp hf
 generalize ((w.alloc (.cells #[.bool S.lv,.int .i64 S.lo,.int .i64 S.hi,.slice D.A S.cs.length D.c,.int .i64 S.hd,.int .i64 S.sz,.slice D.A2 S.l.length D.c2,.slice D.A3 S.h.length D.c3] 33)).alloc (.cells #[.bool F.lv,.int .i64 F.lo,.int .i64 F.hi,.slice E.A F.cs.length E.c,.int .i64 F.hd,.int .i64 F.sz,.slice E.A2 F.l.length E.c2,.slice E.A3 F.h.length E.c3] 33))=w1 at*
 obtain ⟨t0,t1,t2,t3,t4,t5,t6,t7,tl⟩:=H0.out.sa.s8.facts
 go_wp2_with fail
 clear t0 t1 t2 t3 t4 t5 t6 t7 tl
 refine (HVS.out _ H0.out).mono ?_
 rintro e w2 ⟨rfl,hb⟩
 have H2:=Lh (H0.out.below hb)
 clear hb H0
 obtain ⟨t0,t1,t2,t3,t4,t5,t6,t7,tl⟩:=H2.out.fa.s8.facts
 go_wp2_with fail
 clear t0 t1 t2 t3 t4 t5 t6 t7 tl
 refine (HVF.out _ H2.out).mono ?_
 rintro e w3 ⟨rfl,hb⟩
 have H3:=Lh (H2.out.below hb)
 clear hb H2
 obtain ⟨t0,t1,t2,t3,t4,t5,t6,t7,tl⟩:=H3.out.sa.s8.facts
 obtain ⟨y0,y1,y2,y3,y4,y5,y6,y7,yl⟩:=H3.out.fa.s8.facts
 rw [HLS.out] at t0
 rw [HLF.out] at y0
 go_wp2_with fail
 clear t0 t1 t2 t3 t4 t5 t6 t7 tl y0 y1 y2 y3 y4 y5 y6 y7 yl hwh hne HVS HVF
 have HS0:=Lh H3.out.k
 have HD:=Lh (H3.out.below (Below.refl _ _).drew)
 have HS1:=Lh HD.out.k
 go_region_held3 (fun W=>K8 p S D W∧K8 f F E W)
  (first | with_reducible exact HS0.out | with_reducible exact HS1.out | with_reducible exact HS2.out | with_reducible exact HS3.out | with_reducible exact HS4.out)
  (first
  | (go_at_call 65;(first
   | ((with_reducible refine (HSS.out _).mono ?_);rintro e w4 ⟨rfl,hb⟩;have HD2:=Lh (HD.out.below hb);have HS2:=Lh HD2.out.k;clear hb)
   | ((with_reducible refine (HSF.out _).mono ?_);rintro e w5 ⟨rfl,hb⟩;have HD3:=Lh (HD2.out.below hb);have HS3:=Lh HD3.out.k;clear hb)))
  | (go_at_call 66;(with_reducible refine (HCS.out _).mono ?_);rintro e w6 ⟨rfl,hb⟩;have HD4:=Lh (HD3.out.below hb);have HS4:=Lh HD4.out.k;clear hb))
 clear HS0 HD HS1 HS2 HS3 HS4 HD2 HD3 H3 HSS HSF HCS
 go_wp2_with fail
 have HS0:=Lh HD4.out.k
 have HD:=Lh (HD4.out.below (Below.refl _ _).drew)
 have HS1:=Lh HD.out.k
 go_region_held3 (fun W=>K8 p S D W∧K8 f F E W)
  (first | with_reducible exact HS1.out | with_reducible exact HS2.out | with_reducible exact HS3.out | with_reducible exact HS4.out | with_reducible exact HS5.out | with_reducible exact HS6.out | with_reducible exact HS0.out)
  (first
  | (go_at_call 120;(first
   | ((with_reducible refine (HMS.out _ HD.out).mono ?_);rintro e w7 ⟨A1,c1,rfl,hw1,hb⟩;have HD2:=Lh (HD.out.below hb);have HS2:=Lh HD2.out.k;have HL1:=Lh hw1.ls;clear hb hw1)
   | ((with_reducible refine (HMF.out _ HD2.out).mono ?_);rintro e w8 ⟨A2,c2,rfl,hw2,hb⟩;have HD3:=Lh (HD2.out.below hb);have HS3:=Lh HD3.out.k;have HL2:=Lh hw2.ls;have HL12:=Lh ((HL1.out.below hb).more hb.size);have HD4:=Lh (HD3.out.below ((Below.refl _ _).alloc (Nat.le_refl _) (.cells #[.slice A1 S.al.length c1,.slice A2 F.al.length c2] 25)));have HS4:=Lh HD4.out.k;have HMC:=Lh (fun c=>(Mc2.start 25 HL12.out HL2.out).concat c HAN.out);clear hb hw2)))
  | (go_at_call 119;(with_reducible refine (HMC.out _).mono ?_);rintro e w9 ⟨v9,rfl,ho,hb⟩;have HD5:=Lh (HD4.out.below hb);have HS5:=Lh HD5.out.k;obtain ⟨A9,c9,rfl⟩:=own_form ho;have HL9:=Lh (show Ls w9 w9.heap.size (.slice A9 (S.al.length+F.al.length) c9) (S.al++F.al) from (by rw [←List.length_append];exact Ls.of_own ho));clear hb ho)
  | (go_at_call 118;(with_reducible refine (ssameid_any _ _ _ _ _ HL9.out).mono ?_);rintro e w10 ⟨rfl,hb⟩;have HD6:=Lh (HD5.out.below hb);have HS6:=Lh HD6.out.k;clear hb))
 rw [HDP.out]
 go_wp2
 go_ret
 exact ⟨rfl,HD6.out.sa.bel⟩
theorem GtAt.start {S F:Sh} {D E:Sx} {w:World} (hs:SR w w.heap.size S D) (hf:SR w w.heap.size F E):GtAt w w.heap.size (w.heap.size+1) (w.heap.size+1+1) S F D E (((w.alloc (.cells #[.bool S.lv,.int .i64 S.lo,.int .i64 S.hi,.slice D.A S.cs.length D.c,.int .i64 S.hd,.int .i64 S.sz,.slice D.A2 S.l.length D.c2,.slice D.A3 S.h.length D.c3] 33)).alloc (.cells #[.bool F.lv,.int .i64 F.lo,.int .i64 F.hi,.slice E.A F.cs.length E.c,.int .i64 F.hd,.int .i64 F.sz,.slice E.A2 F.l.length E.c2,.slice E.A3 F.h.length E.c3] 33)).alloc (.cells #[.bool false,.int .i64 0,.int .i64 0,.slice none 0 0,.int .i64 0,.int .i64 0,.slice none 0 0,.slice none 0 0] 33)):=by
 have a:=T2.start hs hf
 have a3:=SB8.zero ((w.alloc (.cells #[.bool S.lv,.int .i64 S.lo,.int .i64 S.hi,.slice D.A S.cs.length D.c,.int .i64 S.hd,.int .i64 S.sz,.slice D.A2 S.l.length D.c2,.slice D.A3 S.h.length D.c3] 33)).alloc (.cells #[.bool F.lv,.int .i64 F.lo,.int .i64 F.hi,.slice E.A F.cs.length E.c,.int .i64 F.hd,.int .i64 F.sz,.slice E.A2 F.l.length E.c2,.slice E.A3 F.h.length E.c3] 33)) 33
 exact ⟨a.sa.alloc _,a.fa.alloc _,by simpa using a3,⟨by omega,by omega⟩,hf.offs (Nat.le_refl _),hs.offs (by omega)⟩
theorem GtAt.k {w W:World} {p f r:Nat} {S F:Sh} {D E:Sx} (h:GtAt w p f r S F D E W):K8 p S D W∧K8 f F E W:=⟨h.sa.k8,h.fa.k8⟩
theorem GtAt.t2 {w W:World} {p f r:Nat} {S F:Sh} {D E:Sx} (h:GtAt w p f r S F D E W):SR W W.heap.size S D∧SR W W.heap.size F E:=⟨h.sa.sr,h.fa.sr⟩
/-- A store behind all boxes. -/
theorem GtAt.box {w W:World} {p f r:Nat} {S F:Sh} {D E:Sx} (h:GtAt w p f r S F D E W) {q:Addr} (hq:r<q.block) (hs:SOff S D q.block) (hf:SOff F E q.block) (v:Value):GtAt w p f r S F D E (W.setCell q v):=by
 have hne:=h.ne
 have hold:=h.sa.old
 exact ⟨h.sa.other (show q.block≠p by omega) hs (by omega) v,h.fa.other (show q.block≠f by omega) hf (by omega) v,h.rs.other (show q.block≠r by omega) v,h.ne,h.eo,h.ro⟩
/-- Other routes. -/
def Sh.sp (S:Sh) (lo hi:Int):Sh:=⟨S.lv,lo,hi,S.cs,S.hd,S.sz,S.l,S.h⟩
theorem SAt.setLo {w W:World} {p:Nat} {S:Sh} {D:Sx} (h:SAt w p S D W) (x:Int):SAt w p (S.sp x S.hi) D (W.setCell ⟨p,1,none⟩ (.int .i64 x)):=by
 have g:∀ (j:Nat) (v:Value),j≠1→W.cell? ⟨p,j,none⟩=some v→(W.setCell ⟨p,1,none⟩ (.int .i64 x)).cell? ⟨p,j,none⟩=some v:=fun j v h3 e=>by
  rw [World.cell?_setCell_other _ _ _ _ (addr_ne h3.symm)];exact e
 have r:=(h.sr.offp (p:=⟨p,1,none⟩) h.off (.int .i64 x)).more (show W.heap.size≤(W.setCell ⟨p,1,none⟩ (.int .i64 x)).heap.size by simp)
 exact ⟨⟨g 0 _ (by decide) h.s8.c0,by rw [World.cell?_setCell_same' _ _ _ (by rw [h.s8.c1];rfl)];rfl,g 2 _ (by decide) h.s8.c2,g 3 _ (by decide) h.s8.c3,g 4 _ (by decide) h.s8.c4,g 5 _ (by decide) h.s8.c5,g 6 _ (by decide) h.s8.c6,g 7 _ (by decide) h.s8.c7,fun o=>by rw [World.frozen?_setCell];exact h.s8.fr o,by simpa using h.s8.lt⟩,
  ⟨r.ls,r.el,r.dl⟩,⟨h.off.o1,h.off.o2,h.off.o3⟩,h.bel.setCell (p:=⟨p,1,none⟩) h.old _,h.old⟩
theorem SAt.setHi {w W:World} {p:Nat} {S:Sh} {D:Sx} (h:SAt w p S D W) (x:Int):SAt w p (S.sp S.lo x) D (W.setCell ⟨p,2,none⟩ (.int .i64 x)):=by
 have g:∀ (j:Nat) (v:Value),j≠2→W.cell? ⟨p,j,none⟩=some v→(W.setCell ⟨p,2,none⟩ (.int .i64 x)).cell? ⟨p,j,none⟩=some v:=fun j v h3 e=>by
  rw [World.cell?_setCell_other _ _ _ _ (addr_ne h3.symm)];exact e
 have r:=(h.sr.offp (p:=⟨p,2,none⟩) h.off (.int .i64 x)).more (show W.heap.size≤(W.setCell ⟨p,2,none⟩ (.int .i64 x)).heap.size by simp)
 exact ⟨⟨g 0 _ (by decide) h.s8.c0,g 1 _ (by decide) h.s8.c1,by rw [World.cell?_setCell_same' _ _ _ (by rw [h.s8.c2];rfl)];rfl,g 3 _ (by decide) h.s8.c3,g 4 _ (by decide) h.s8.c4,g 5 _ (by decide) h.s8.c5,g 6 _ (by decide) h.s8.c6,g 7 _ (by decide) h.s8.c7,fun o=>by rw [World.frozen?_setCell];exact h.s8.fr o,by simpa using h.s8.lt⟩,
  ⟨r.ls,r.el,r.dl⟩,⟨h.off.o1,h.off.o2,h.off.o3⟩,h.bel.setCell (p:=⟨p,2,none⟩) h.old _,h.old⟩
set_option maxHeartbeats 8000000 in
set_option maxRecDepth 20000 in
theorem sunite_ok (S F:Sh) (D E:Sx) (w:World) (hs:SR w w.heap.size S D) (hf:SR w w.heap.size F E) (vS:shV S=0) (vF:shV F=0) (lS:S.lv=true) (lF:F.lv=true) (h1:S.hi+1=F.lo) (hh0:0≤S.hi) (hh1:S.hi≤65535) (hlo:S.lo≤S.hi) (hhi:F.lo≤F.hi)
  (n1:1≤S.cs.length) (n2:S.cs.length≤1000) (n4:S.h.length≤1000)
  (s0:0≤S.sz) (s1:S.sz≤100) (s2:S.l.length≤100) (f0:0≤F.sz) (f1:F.sz≤100) (f2:F.l.length≤100) (hr:S.sz+S.l.length+(F.sz+F.l.length)≤S.cs.length) (hd:dpB (S.al++F.al)=false) (ha:(S.al++F.al).length≤1000) :
  Calls Tryz.prog 29 #[sv S D,sv F E] w (SE w (gthF (S.sp S.lo F.hi) F) 0):=by
 have H0:=Lh (GtAt.start hs hf)
 have HUE:=Lh (fun W (q:SR W W.heap.size S D∧SR W W.heap.size F E)=>suerr_ok S F D E W q.1 q.2 vS vF lS lF h1 hh0 hh1 s0 s1 s2 f0 f1 f2 hr hd ha)
 have HCL:=Lh (fun W (q:SR W W.heap.size S D∧SR W W.heap.size F E)=>sclone_any S D W q.1 n1 n2 (by omega) n4)
 have HGA:=Lh (fun D' W (q:SR W W.heap.size (S.sp S.lo F.hi) D') (r:SR W W.heap.size F E)=>gather_any (S.sp S.lo F.hi) F D' E W q r (by omega) (Nat.le_trans (lsF_le _ _ _) (by decide)))
 have HSP:=Lh (show S.sp S.lo F.hi=⟨S.lv,S.lo,F.hi,S.cs,S.hd,S.sz,S.l,S.h⟩ from rfl)
 obtain ⟨R,hR⟩:∃ R,R=gthF (S.sp S.lo F.hi) F:=⟨_,rfl⟩
 rw [←hR] at HGA ⊢
 obtain ⟨S2,hS2⟩:∃ S2,S2=S.sp S.lo F.hi:=⟨_,rfl⟩
 rw [←hS2] at HGA HSP
 have HMM:=Lh (show min S.lo F.lo=S.lo∧max S.hi F.hi=F.hi by omega)
 clear hR hS2 hs hf vS vF lS lF h1 hh0 hh1 hlo hhi n1 n2 n4 s0 s1 s2 f0 f1 f2 hr hd ha
 go_enter Tryz.func29,Tryz.ntmps29
 obtain ⟨p,hp⟩:∃ p,p=w.heap.size:=⟨_,rfl⟩
 obtain ⟨f,hf⟩:∃ p,p=w.heap.size+1:=⟨_,rfl⟩
 obtain ⟨r,hr⟩:∃ p,p=w.heap.size+1+1:=⟨_,rfl⟩
 go_upto_region 1 with (fail)
 rw [←hr,←hf,←hp]
 rw [←hr,←hf,←hp] at H0
 have HPW:=Lh (show w.heap.size≤r by omega)
 clear hp hf hr
 generalize (((w.alloc (.cells #[.bool S.lv,.int .i64 S.lo,.int .i64 S.hi,.slice D.A S.cs.length D.c,.int .i64 S.hd,.int .i64 S.sz,.slice D.A2 S.l.length D.c2,.slice D.A3 S.h.length D.c3] 33)).alloc (.cells #[.bool F.lv,.int .i64 F.lo,.int .i64 F.hi,.slice E.A F.cs.length E.c,.int .i64 F.hd,.int .i64 F.sz,.slice E.A2 F.l.length E.c2,.slice E.A3 F.h.length E.c3] 33)).alloc (.cells #[.bool false,.int .i64 0,.int .i64 0,.slice none 0 0,.int .i64 0,.int .i64 0,.slice none 0 0,.slice none 0 0] 33))=w1 at*
 obtain ⟨t0,t1,t2,t3,t4,t5,t6,t7,tl⟩:=H0.out.sa.s8.facts
 obtain ⟨y0,y1,y2,y3,y4,y5,y6,y7,yl⟩:=H0.out.fa.s8.facts
 go_wp2_with fail
 clear t0 t1 t2 t3 t4 t5 t6 t7 tl y0 y1 y2 y3 y4 y5 y6 y7 yl
 refine (HUE.out _ H0.out.t2).mono ?_
 rintro e w2 ⟨rfl,hb⟩
 have H2:=Lh (H0.out.below hb)
 clear hb H0
 obtain ⟨t0,t1,t2,t3,t4,t5,t6,t7,tl⟩:=H2.out.sa.s8.facts
 go_wp2_with fail
 clear t0 t1 t2 t3 t4 t5 t6 t7 tl
 refine (HCL.out _ H2.out.t2).mono ?_
 rintro e w3 ⟨D2,rfl,hn2,hr2,hb⟩
 have H3:=Lh ((H2.out.below hb).alloc (.cells #[.bool S.lv,.int .i64 S.lo,.int .i64 S.hi,.slice D2.A S.cs.length D2.c,.int .i64 S.hd,.int .i64 S.sz,.slice D2.A2 S.l.length D2.c2,.slice D2.A3 S.h.length D2.c3] 33))
 have HZ3:=Lh (SAt.start 33 hr2)
 have HRL:=Lh (show r<w3.heap.size from (H2.out.below hb).rs.lt)
 have HSO:=Lh (show SOff S D w3.heap.size∧SOff F E w3.heap.size from ⟨(H2.out.below hb).sa.sr.offs (Nat.le_refl _),(H2.out.below hb).fa.sr.offs (Nat.le_refl _)⟩)
 have HN2:=Lh (show D2.nw (r+1) from hn2.low H2.out.rs.lt)
 have HB3:=Lh (show Below w.heap.size w w3 from (H2.out.below hb).sa.bel)
 clear hn2 hr2 hb H2
 go_wp2_with fail
 obtain ⟨s,hs⟩:∃ p,p=w3.heap.size:=⟨_,rfl⟩
 rw [←hs] at HZ3 HRL HSO ⊢
 have HSW:=Lh hs
 clear hs
 generalize w3.alloc (.cells #[.bool S.lv,.int .i64 S.lo,.int .i64 S.hi,.slice D2.A S.cs.length D2.c,.int .i64 S.hd,.int .i64 S.sz,.slice D2.A2 S.l.length D2.c2,.slice D2.A3 S.h.length D2.c3] 33)=w4 at*
 have HX1:=Lh (H3.out.box (q:=⟨s,1,none⟩) HRL.out HSO.out.1 HSO.out.2 (.int .i64 (min S.lo F.lo)))
 have HX2:=Lh (HX1.out.box (q:=⟨s,2,none⟩) HRL.out HSO.out.1 HSO.out.2 (.int .i64 (max S.hi F.hi)))
 have HY1:=Lh (H3.out.box (q:=⟨s,2,none⟩) HRL.out HSO.out.1 HSO.out.2 (.int .i64 (max S.hi F.hi)))
 have HS0:=Lh H3.out.k
 have HS1:=Lh (show K8 p S D w4.drew∧K8 f F E w4.drew from H3.out.k)
 have HS2:=Lh (show K8 p S D (w4.setCell ⟨s,1,none⟩ (.int .i64 (min S.lo F.lo))).drew∧K8 f F E (w4.setCell ⟨s,1,none⟩ (.int .i64 (min S.lo F.lo))).drew from HX1.out.k)
 have HS3:=Lh (show K8 p S D ((w4.setCell ⟨s,1,none⟩ (.int .i64 (min S.lo F.lo))).setCell ⟨s,2,none⟩ (.int .i64 (max S.hi F.hi))).drew∧K8 f F E ((w4.setCell ⟨s,1,none⟩ (.int .i64 (min S.lo F.lo))).setCell ⟨s,2,none⟩ (.int .i64 (max S.hi F.hi))).drew from HX2.out.k)
 have HS4:=Lh (show K8 p S D (w4.setCell ⟨s,2,none⟩ (.int .i64 (max S.hi F.hi))).drew∧K8 f F E (w4.setCell ⟨s,2,none⟩ (.int .i64 (max S.hi F.hi))).drew from HY1.out.k)
 have HY2:=Lh (HY1.out.box (q:=⟨s,1,none⟩) HRL.out HSO.out.1 HSO.out.2 (.int .i64 (min S.lo F.lo)))
 go_cut [4] (fun s4 wx=>s4=.pointer (some ⟨r,0,none⟩)∧Hid (GtAt w p f r S F D E wx)∧Hid (SAt w3 s S2 D2 wx))
 case first=>
  obtain ⟨⟨z0,z1,z2,z3,z4,z5,z6,z7,zl⟩,⟨f0,f1,f2,f3,f4,f5,f6,f7⟩⟩:=HZ3.out.s8.all
  go_region_held3 (fun W=>K8 p S D W∧K8 f F E W)
   (first | with_reducible exact HS0.out | with_reducible exact HS1.out | with_reducible exact HS2.out | with_reducible exact HS3.out | with_reducible exact HS4.out)
   (fail)
  all_goals
   clear z0 z1 z2 z3 z4 z5 z6 z7 zl f0 f1 f2 f3 f4 f5 f6 f7
   go_wp2_with fail
   go_meet
   first
   | exact ⟨rfl,Lh (HX2.out.below (Below.refl _ _).drew),Lh (by rw [HSP.out];have:=((HZ3.out.setLo (min S.lo F.lo)).setHi (max S.hi F.hi)).below (Below.refl _ _).drew;rw [HMM.out.1,HMM.out.2] at this;rw [HMM.out.1,HMM.out.2];exact this)⟩
   | exact ⟨rfl,Lh (HY2.out.below (Below.refl _ _).drew),Lh (by rw [HSP.out];have:=((HZ3.out.setHi (max S.hi F.hi)).setLo (min S.lo F.lo)).below (Below.refl _ _).drew;rw [HMM.out.1,HMM.out.2] at this;rw [HMM.out.1,HMM.out.2];exact this)⟩
 case rest=>
  clear H3 HZ3 HX1 HX2 HY1 HY2 HS0 HS1 HS2 HS3 HS4
  obtain ⟨rfl,H4,HZ4⟩:=hcut
  obtain ⟨t0,t1,t2,t3,t4,t5,t6,t7,tl⟩:=HZ4.out.s8.facts
  obtain ⟨y0,y1,y2,y3,y4,y5,y6,y7,yl⟩:=H4.out.fa.s8.facts
  go_wp2_with fail
  clear t0 t1 t2 t3 t4 t5 t6 t7 tl y0 y1 y2 y3 y4 y5 y6 y7 yl
  refine (HGA.out D2 _ HZ4.out.sr H4.out.fa.sr).mono ?_
  rintro e w6 ⟨D6,rfl,hf6,hr6,hb⟩
  have H6:=Lh (H4.out.below hb)
  have HF:=Lh (show SE w R 0 (.returned (.tuple #[sv R D6,.int .i64 0])) (set8s w6 r R D6) from
   ⟨D6,rfl,(hf6 (r+1) (by have:=H4.out.rs.lt;omega) HN2.out).low (by have:=HPW.out;omega),SR.sets ((hf6 (r+1) (by have:=H4.out.rs.lt;omega) HN2.out).off (Nat.lt_succ_self r)) (R.l8 D6) 0 w6 hr6,set8s_below HPW.out H6.out.sa.bel R D6⟩)
  obtain ⟨⟨r0,r1,r2,r3,r4,r5,r6,r7,rl⟩,⟨g0,g1,g2,g3,g4,g5,g6,g7⟩⟩:=H6.out.rs.all
  clear hf6 hr6 hb
  go_wp2
  exact bodyPost_ret (v:=.tuple #[sv R D6,.int .i64 0]) (by simp only [results,Tryz.results29];go_simp <;> rfl) rfl HF.out
end Go.Proofs.YtncgbldcjfbknaaGreat
