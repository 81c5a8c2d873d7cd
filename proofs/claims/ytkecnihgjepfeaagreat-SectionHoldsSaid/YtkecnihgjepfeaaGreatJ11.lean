/- What is proved here: parts of the proof: Srd Sra Nsd Drm Dra Dcn. -/
import Derived.Deep.QuietTactic
import Derived.BigQuiet
import Derived.Test.YtkecnihgjepfeaaGreatJ01
import Derived.Test.YtkecnihgjepfeaaGreatJ03
import Derived.Deep.RegionHeld3
import Derived.Deep.DrawnRows
import Derived.WalkSpells
import Derived.Lib.AppendZerosOnto
namespace Go.Proofs.YtkecnihgjepfeaaGreat
open Go.RowKit
set_option linter.unusedVariables false
set_option linter.unusedSimpArgs false
set_option maxHeartbeats 8000000
set_option maxRecDepth 20000
def i64v (z:Int):Value:=.int .i64 z
def SrcAt (W:World) (B g:Nat):Prop:=B<=g/\g<W.heap.size/\∃ (A:Option Addr) (n c k:Nat) (zs:List Int),
 k<=n/\n<=4000/\n<=c/\c<=maxLen/\W.cell? ⟨g,0,none⟩=some (.slice A n c)/\W.cell? ⟨g,1,none⟩=some (.int .i64 k)/\W.frozen? ⟨g,1,none⟩=false/\Rd W B 1 A n (zs.map i64v)/\∀ z∈zs,-9223372036854775808<=z/\z<=9223372036854775807
section
variable {W W' : World} {B g h:Nat}
theorem SrcAt.keep (s:SrcAt W B g) (hs:W.heap.size<=W'.heap.size) (h0:∀ o,W'.cell? ⟨g,o,none⟩=W.cell? ⟨g,o,none⟩) (h1:∀ o,W'.frozen? ⟨g,o,none⟩=W.frozen? ⟨g,o,none⟩) (hk:∀ p:Addr,p.block<B->W'.cell? p=W.cell? p):SrcAt W' B g:=by
 obtain ⟨hB,hg,A,n,c,k,zs,a1,a2,a3,a4,a5,a6,a7,a8,a9⟩:=s
 exact ⟨hB,by omega,A,n,c,k,zs,a1,a2,a3,a4,(h0 0).trans a5,(h0 1).trans a6,(h1 1).trans a7,a8.keep hk,a9⟩
theorem SrcAt.below (s:SrcAt W B g) (hb:Below W.heap.size W W'):SrcAt W' B g:=
 s.keep hb.size (fun o=>hb.cell s.2.1) (fun o=>hb.frozen s.2.1) (fun p hp=>hb.cell (by have:=s.1;have:=s.2.1;omega))
theorem SrcAt.alloc (s:SrcAt W B g) (o:Obj):SrcAt (W.alloc o) B g:=s.below ((Below.refl _ _).alloc (nLR _) o)
theorem SrcAt.drewN (s:SrcAt W B g) (n:Nat):SrcAt (W.drewN n) B g:=s
theorem SrcAt.other (s:SrcAt W B g) {p:Addr} (hp:p.block≠g) (hB:B<=p.block) (v:Value):SrcAt (W.setCell p v) B g:=
 s.keep (by simp) (fun o=>World.cell?_setCell_other W p _ v (fun e=>hp (by rw [e]))) (fun o=>by rw [World.frozen?_setCell]) (fun q hq=>World.cell?_setCell_other W p q v (fun e=>by rw [e] at hB;omega))
theorem SrcAt.next (s:SrcAt W B g) {A:Option Addr} {n c k:Nat} (h0:W.cell? ⟨g,0,none⟩=some (.slice A n c)) (h1:W.cell? ⟨g,1,none⟩=some (.int .i64 k)) (hk:k<n):SrcAt (W.setCell ⟨g,1,none⟩ (.int .i64 ((k:Int)+1))) B g:=by
 obtain ⟨hB,hg,A',n',c',k',zs,a1,a2,a3,a4,a5,a6,a7,a8,a9⟩:=s
 rw [h0] at a5
 injection a5 with a5
 injection a5 with e1 e2 e3
 subst e1;subst e2;subst e3
 refine ⟨hB,by simpa using hg,A,n,c,k+1,zs,by omega,a2,a3,a4,(World.cell?_setCell_other W _ _ _ (fun e=>by injection e;omega)).trans h0,?_,by rw [World.frozen?_setCell];exact a7,a8.setCell hB _,a9⟩
 simp [go_sem,h1]
theorem only_drewN {a w:World} {row:Option Nat} (h:a.grownBy w row) (n:Nat):a.grownBy (w.drewN n) row:=⟨h.os,h.tape,h.output,h.size,h.block⟩
theorem only_alloc {a w:World} {row:Option Nat} (h:a.grownBy w row) (o:Obj):a.grownBy (w.alloc o) row:=
 ⟨h.os,h.tape,h.output,Nat.le_trans h.size (by simp),fun i hi hne=>(Below.heap_alloc w o i (Nat.lt_of_lt_of_le hi h.size)).trans (h.block i hi hne)⟩
theorem only_set {a w:World} {g:Nat} (h:a.grownBy w (some g)) {p:Addr} (hp:p.block=g\/a.heap.size<=p.block) (u:Value):a.grownBy (w.setCell p u) (some g):=
 ⟨h.os,h.tape,h.output,by simpa [World.setCell] using h.size,fun i hi hne=>(Below.heap_setCell w p u i (by
  rintro rfl
  rcases hp with hp | hp
  ·exact hne (by rw [hp])
  ·omega)).trans (h.block i hi hne)⟩
theorem only_below {a w w' : World} {g:Nat} (h:a.grownBy w (some g)) (hb:Below w.heap.size w w'):a.grownBy w' (some g):=
 ⟨hb.os.trans h.os,hb.tape.trans h.tape,hb.output.trans h.output,Nat.le_trans h.size hb.size,fun i hi hne=>(hb.block i (Nat.lt_of_lt_of_le hi h.size)).trans (h.block i hi hne)⟩
end
def SrInt (B g:Nat) (lo hi:Int) (w:World) (e:Ending) (w' : World):Prop:=∃ x,e=.returned (.int .i64 x)/\lo<=x/\x<=hi/\SrcAt w' B g/\w.grownBy w' (some g)
theorem raw_any (B g:Nat) (w:World) (h:SrcAt w B g):Calls Tryz.prog 28 #[.pointer (some ⟨g,0,none⟩)] w (SrInt B g (-9223372036854775808) 9223372036854775807 w):=by
 have H:=Lh h
 obtain ⟨hB,hg,A,n,c,k,zs,a1,a2,a3,a4,a5,a6,a7,a8,a9⟩:=h
 have HA:=Lh a8
 have HZ:=Lh a9
 have a2' : (n:Int)<=4000:=by omega
 clear hB hg a2 a3 a4 a8 a9
 by_cases hk:k<n
 ·have hk' : ¬((n:Int)<=(k:Int)):=by omega
  have hd:decide ((n:Int)<=(k:Int))=false:=decide_eq_false hk'
  obtain ⟨b,o,rfl,hb,hcell⟩:=HA.out.2 (by omega)
  have hzl:k<zs.length:=by have:=HA.out.1;simp at this;omega
  have hz:=HZ.out zs[k] (List.getElem_mem hzl)
  have hcz:=hcell k (i64v zs[k]) (by simp [hzl])
  unfold i64v at hcz
  generalize zs[k]=z at*
  have HZ2:=Lh hz
  have hne1:b≠g:=by have:=H.out.1;omega
  have hne2:g≠b:=fun e=>hne1 e.symm
  have hk63:(k:Int)<(n:Int):=by omega
  have hk0:(0:Int)<=(k:Int):=Int.natCast_nonneg _
  have hs:IntKind.i64.wrap ((k:Int)+1 - 1)=k:=by rw [IntWalk.i64_in _ (by omega)];omega
  clear hcell hzl hz
  go_enter Tryz.func28,Tryz.ntmps28
  go_wp2
  go_quiet (fail)
  go_wp2
  go_quiet (fail)
  go_wp2
  go_ret
  exact ⟨z,rfl,HZ2.out.1,HZ2.out.2,((H.out.drewN _).next a5 a6 (by omega)).drewN _,only_drewN (only_set (only_drewN (World.grownBy.refl _ _) _) (.inl rfl) _) _⟩
 ·have hk' : (n:Int)<=(k:Int):=by omega
  have hd:decide ((n:Int)<=(k:Int))=true:=decide_eq_true hk'
  go_enter Tryz.func28,Tryz.ntmps28
  go_wp2
  go_quiet (fail)
  go_wp2
  go_ret
  exact ⟨0,rfl,by omega,by omega,H.out.drewN _,only_drewN (World.grownBy.refl _ _) _⟩
theorem tmod_gt (x n:Int) (h:0<n):-n<x.tmod n:=by
 have h1:=Int.tmod_lt_of_pos (-x) h
 rw [Int.neg_tmod] at h1
 omega
theorem n_any (B g:Nat) (w:World) (h:SrcAt w B g) (n:Int) (h1:1<=n) (h2:n<=1073741824):Calls Tryz.prog 11 #[.pointer (some ⟨g,0,none⟩),.int .i64 n] w (SrInt B g 0 (n - 1) w):=by
 have HC:=Lh (raw_any B g w h)
 clear h
 go_enter Tryz.func11,Tryz.ntmps11
 go_wp2_with fail
 refine HC.out.mono ?_
 rintro e w1 ⟨x,rfl,hx1,hx2,hs,hg⟩
 have HS:=Lh hs
 have HG:=Lh hg
 have hr1:x.tmod n<n:=Int.tmod_lt_of_pos x (by omega)
 have hr2:-n<x.tmod n:=tmod_gt x n (by omega)
 clear hs hg
 by_cases hr:x.tmod n<0
 ·go_wp2
  go_ret
  exact ⟨x.tmod n+n,rfl,by omega,by omega,HS.out,HG.out⟩
 ·go_wp2
  go_ret
  exact ⟨x.tmod n,rfl,by omega,by omega,HS.out,HG.out⟩
theorem range_any (B g:Nat) (w:World) (h:SrcAt w B g) (lo hi:Int) (h0:0<=lo) (h1:lo<=hi) (h2:hi<=1073741823):Calls Tryz.prog 24 #[.pointer (some ⟨g,0,none⟩),.int .i64 lo,.int .i64 hi] w (SrInt B g lo hi w):=by
 have HC:=Lh (n_any B g w h (hi - lo+1) (by omega) (by omega))
 clear h
 go_enter Tryz.func24,Tryz.ntmps24
 go_wp2_with fail
 refine HC.out.mono ?_
 rintro e w1 ⟨x,rfl,hx1,hx2,hs,hg⟩
 have HS:=Lh hs
 have HG:=Lh hg
 clear hs hg
 go_wp2
 go_ret
 exact ⟨lo+x,rfl,by omega,by omega,HS.out,HG.out⟩
def Ns (w:World) (B:Nat) (v:Value) (zs:List Int):Prop:=∃ A c,v=.slice A zs.length c/\zs.length<=c/\c<=maxLen/\Rd w B 1 A zs.length (zs.map i64v)/\∀ z∈zs,-9223372036854775808<=z/\z<=9223372036854775807
section
variable {w w' : World} {B B' : Nat} {v:Value} {zs:List Int}
theorem Ns.nil:Ns w B (.slice none 0 0) []:=⟨none,0,rfl,nLR _,Nat.zero_le _,Rd.nil none,by simp⟩
theorem Ns.parts {A:Option Addr} {n c:Nat} (h:Ns w B (.slice A n c) zs):n=zs.length/\n<=c/\c<=maxLen/\Rd w B 1 A n (zs.map i64v)/\∀ z∈zs,-9223372036854775808<=z/\z<=9223372036854775807:=by
 obtain ⟨A',c',e,hl,hm,h,hz⟩:=h
 injection e with e1 e2 e3
 subst e1;subst e2;subst e3
 exact ⟨rfl,hl,hm,h,hz⟩
theorem Ns.of_cells {a:Addr} {l c:Nat} {zs:List Int} (hl:l<=c) (hm:c<=maxLen) (hz:zs.length=c) (hc:∀ i,i<zs.length->w.cell? (a.add i)=some (.int .i64 (zs.getD i 0))) (hw:∀ n∈zs,(Lit.int .i64 n).wf=true) :
  ∃ ys,Ns w w.heap.size (.slice (some a) l c) ys:=by
 have hlen:(zs.take l).length=l:=by simp;omega
 refine ⟨zs.take l,some a,c,by rw [hlen],by omega,hm,⟨by simp,fun hn=>?_⟩,fun z hz'=>?_⟩
 ·rw [hlen] at hn
  obtain ⟨b,o,spot⟩:=a
  have h0:=hc 0 (by omega)
  have hspot:spot=none:=by simpa [Addr.add] using World.cell?_spot h0
  subst hspot
  refine ⟨b,o,rfl,World.block_lt_of_cell? w ⟨b,o,none⟩ (by simpa [Addr.add] using h0),fun j u hu=>?_⟩
  simp only [List.getElem?_map,Option.map_eq_some_iff] at hu
  obtain ⟨x,hx,rfl⟩:=hu
  obtain ⟨hj,rfl⟩:=List.getElem?_eq_some_iff.1 hx
  have hj' : j<zs.length:=by simp at hj;omega
  have h:=hc j hj'
  rw [add_mk] at h
  rw [h]
  simp [i64v,List.getD,hj']
 ·have:=hw z (List.mem_of_mem_take hz')
  simp only [Lit.wf,Bool.and_eq_true,decide_eq_true_eq] at this
  exact this
end
def Sp.l (d:Sp):List Value:=[.int .i64 d.lo,.int .i64 d.hi,.int .i64 d.sh]
abbrev Sp.v (d:Sp):Value:=.agg #[.int .i64 d.lo,.int .i64 d.hi,.int .i64 d.sh]
theorem Sp.l_len (d:Sp):d.l.length=3:=rfl
theorem Sp.l_one (d:Sp):∀ u∈d.l,u.oneCell' = true:=by
 intro u hu
 simp only [Sp.l,List.mem_cons,List.not_mem_nil,or_false] at hu
 rcases hu with rfl | rfl | rfl <;> rfl
def scs (l:List Sp):List Value:=l.flatMap Sp.l
theorem scs_cons (d:Sp) (l:List Sp):scs (d::l)=d.l++scs l:=rfl
theorem scs_len (l:List Sp):(scs l).length=l.length*3:=by
 induction l with
 | nil=>rfl
 | cons d l ih=>rw [scs_cons,List.length_append,ih,Sp.l_len];simp;omega
theorem scs_drop (l:List Sp) (k:Nat):(scs l).drop (k*3)=scs (l.drop k):=by
 induction k generalizing l with
 | zero=>simp
 | succ k ih=>
  cases l with
  | nil=>simp [scs]
  | cons d l=>
   rw [scs_cons,List.drop_succ_cons,<-ih,show (k+1)*3=d.l.length+k*3 by rw [Sp.l_len];omega,List.drop_append,List.drop_eq_nil_of_le (by omega)]
   simp
theorem scs_take (l:List Sp) (k:Nat):(scs l).take (k*3)=scs (l.take k):=by
 induction k generalizing l with
 | zero=>simp [scs]
 | succ k ih=>
  cases l with
  | nil=>simp [scs]
  | cons d l=>
   rw [scs_cons,List.take_succ_cons,scs_cons,<-ih,show (k+1)*3=d.l.length+k*3 by rw [Sp.l_len];omega,List.take_append,List.take_of_length_le (by omega)]
   simp
theorem scs_at (l:List Sp) (k j:Nat) (hk:k<l.length) (hj:j<3):(scs l)[k*3+j]? = l[k].l[j]?:=by
 have h:=scs_drop l k
 have e:(scs l)[k*3+j]? = ((scs l).drop (k*3))[j]?:=by rw [List.getElem?_drop]
 rw [e,h,List.drop_eq_getElem_cons hk,scs_cons,List.getElem?_append_left (by rw [Sp.l_len];exact hj)]
theorem scs_one (l:List Sp):∀ u∈scs l,u.oneCell' = true:=by
 intro u hu
 obtain ⟨M,_,h⟩:=List.mem_flatMap.1 hu
 exact M.l_one u h
def ics (F:List Int):List Value:=F.map i64v
theorem ics_len (F:List Int):(ics F).length=F.length*1:=by simp [ics]
theorem ics_one (F:List Int):∀ u∈ics F,u.oneCell' = true:=by
 intro u hu
 obtain ⟨M,_,rfl⟩:=List.mem_map.1 hu
 rfl
theorem ics_app (l m:List Int):ics (l++m)=ics l++ics m:=by simp [ics]
def Pl (w:World) (B:Nat) (v:Value) (l:List Sp):Prop:=∃ A c,v=.slice A l.length c/\l.length<=c/\c<=maxLen/\Rd w B 3 A l.length (scs l)
section
variable {w w' : World} {B B' : Nat} {v:Value} {l:List Sp} {A:Option Addr} {n c:Nat}
theorem Pl.nil:Pl w B (.slice none 0 0) []:=⟨none,0,rfl,nLR _,Nat.zero_le _,Rd.nil none⟩
theorem Pl.keep (h:Pl w B v l) (hk:∀ p:Addr,p.block<B->w'.cell? p=w.cell? p):Pl w' B v l:=by
 obtain ⟨A,c,e,hl,hm,h⟩:=h;exact ⟨A,c,e,hl,hm,h.keep hk⟩
theorem Pl.more (h:Pl w B v l) (hB:B<=B'):Pl w B' v l:=by
 obtain ⟨A,c,e,hl,hm,h⟩:=h;exact ⟨A,c,e,hl,hm,h.more hB⟩
theorem Pl.below (h:Pl w B v l) (hb:Below B w w'):Pl w' B v l:=h.keep fun _ hp=>hb.cell hp
theorem Pl.up (h:Pl w w.heap.size v l) (hb:Below w.heap.size w w'):Pl w' w'.heap.size v l:=(h.below hb).more hb.size
theorem Pl.alloc (h:Pl w B v l) (hB:B<=w.heap.size) (o:Obj):Pl (w.alloc o) B v l:=h.keep fun p hp=>World.cell?_alloc_lt w o p (by omega)
theorem Pl.len (h:Pl w B (.slice A n c) l):n=l.length/\n<=c/\c<=maxLen:=by
 obtain ⟨A',c',e,hl,hm,h⟩:=h
 injection e with e1 e2 e3
 subst e2;subst e3
 exact ⟨rfl,hl,hm⟩
theorem Pl.rd (h:Pl w B (.slice A n c) l):Rd w B 3 A n (scs l):=by
 obtain ⟨A',c',e,hl,hm,h⟩:=h
 injection e with e1 e2 e3
 subst e1;subst e2
 exact h
theorem Pl.of_own {base:Nat} {e:TypeId} {n:Nat} (h:w.ownsRow base e 3 v n (scs l)):Pl w w.heap.size v l:=by
 have hl:n=l.length:=by have:=h.1;rw [scs_len] at this;omega
 subst hl
 rcases h.2 with ⟨hv,h0⟩ | ⟨g,cap,cur,hv,_,_,hl,hm,_⟩
 ·subst hv;exact ⟨none,0,by rw [h0],by omega,Nat.zero_le _,by rw [show l=[] from List.length_eq_zero_iff.1 h0];exact Rd.nil _⟩
 ·subst hv;exact ⟨_,cap,rfl,hl,hm,Rd.of_own h⟩
theorem Pl.offp (h:Pl w B (.slice A n c) l) {p:Addr} (ho:∀ a,A=some a->0<n->a.block≠p.block) (v:Value):Pl (w.setCell p v) B (.slice A n c) l:=by
 obtain ⟨h1,h2,h3⟩:=h.len
 subst h1
 refine ⟨A,c,rfl,h2,h3,h.rd.1,fun hn=>?_⟩
 obtain ⟨b,o,e,hb,hc⟩:=h.rd.2 hn
 have:=ho _ e hn
 exact ⟨b,o,e,hb,fun j u hu=>(World.cell?_setCell_other w p _ v (fun e'=>by have e2:=congrArg Addr.block e';simp at e2 this;omega)).trans (hc j u hu)⟩
theorem Pl.atg {k:Nat} (h:Pl w B (.slice A n c) l) (hk:k<l.length):∃ b o,A=some ⟨b,o,none⟩/\b<B/\w.cell? ⟨b,o+k*3,none⟩=some (.int .i64 (sg l k).lo)/\w.cell? ⟨b,o+k*3+1,none⟩=some (.int .i64 (sg l k).hi)/\w.cell? ⟨b,o+k*3+2,none⟩=some (.int .i64 (sg l k).sh):=by
 have hn:=h.len.1
 obtain ⟨b,o,e,hb,hc⟩:=h.rd.2 (by omega)
 have g:∀ j u,j<3->l[k].l[j]? = some u->w.cell? ⟨b,o+k*3+j,none⟩=some u:=fun j u hj hu=>by
  rw [Nat.add_assoc];exact hc _ u (by rw [scs_at l k j hk hj];exact hu)
 rw [sg_get hk]
 exact ⟨b,o,e,hb,g 0 _ (by omega) rfl,g 1 _ (by omega) rfl,g 2 _ (by omega) rfl⟩
theorem Pl.upto {k:Nat} (h:Pl w B (.slice A n c) l) (hk:k<=l.length):Pl w B (.slice A k c) (l.take k):=by
 obtain ⟨h1,h2,h3⟩:=h.len
 refine ⟨A,c,by rw [List.length_take,Nat.min_eq_left hk],by rw [List.length_take,Nat.min_eq_left hk];omega,h3,?_⟩
 rw [List.length_take,Nat.min_eq_left hk]
 refine ⟨by rw [scs_len,List.length_take,Nat.min_eq_left hk],fun h0=>?_⟩
 obtain ⟨b,o,e,hb,hc⟩:=h.rd.2 (by omega)
 exact ⟨b,o,e,hb,fun j u hu=>hc j u (by
  rw [<-scs_take,List.getElem?_take] at hu
  split at hu
  ·exact hu
  ·cases hu)⟩
end
def Fl (w:World) (B:Nat) (v:Value) (l:List Int):Prop:=∃ A c,v=.slice A l.length c/\l.length<=c/\c<=maxLen/\Rd w B 1 A l.length (ics l)
section
variable {w w' : World} {B B' : Nat} {v:Value} {l:List Int} {A:Option Addr} {n c:Nat}
theorem Fl.nil:Fl w B (.slice none 0 0) []:=⟨none,0,rfl,nLR _,Nat.zero_le _,Rd.nil none⟩
theorem Fl.keep (h:Fl w B v l) (hk:∀ p:Addr,p.block<B->w'.cell? p=w.cell? p):Fl w' B v l:=by
 obtain ⟨A,c,e,hl,hm,h⟩:=h;exact ⟨A,c,e,hl,hm,h.keep hk⟩
theorem Fl.more (h:Fl w B v l) (hB:B<=B'):Fl w B' v l:=by
 obtain ⟨A,c,e,hl,hm,h⟩:=h;exact ⟨A,c,e,hl,hm,h.more hB⟩
theorem Fl.below (h:Fl w B v l) (hb:Below B w w'):Fl w' B v l:=h.keep fun _ hp=>hb.cell hp
theorem Fl.up (h:Fl w w.heap.size v l) (hb:Below w.heap.size w w'):Fl w' w'.heap.size v l:=(h.below hb).more hb.size
theorem Fl.alloc (h:Fl w B v l) (hB:B<=w.heap.size) (o:Obj):Fl (w.alloc o) B v l:=h.keep fun p hp=>World.cell?_alloc_lt w o p (by omega)
theorem Fl.len (h:Fl w B (.slice A n c) l):n=l.length/\n<=c/\c<=maxLen:=by
 obtain ⟨A',c',e,hl,hm,h⟩:=h
 injection e with e1 e2 e3
 subst e2;subst e3
 exact ⟨rfl,hl,hm⟩
theorem Fl.rd (h:Fl w B (.slice A n c) l):Rd w B 1 A n (ics l):=by
 obtain ⟨A',c',e,hl,hm,h⟩:=h
 injection e with e1 e2 e3
 subst e1;subst e2
 exact h
theorem Fl.of_own {base:Nat} {e:TypeId} {n:Nat} (h:w.ownsRow base e 1 v n (ics l)):Fl w w.heap.size v l:=by
 have hl:n=l.length:=by have:=h.1;rw [ics_len] at this;omega
 subst hl
 rcases h.2 with ⟨hv,h0⟩ | ⟨g,cap,cur,hv,_,_,hl,hm,_⟩
 ·subst hv;exact ⟨none,0,by rw [h0],by omega,Nat.zero_le _,by rw [show l=[] from List.length_eq_zero_iff.1 h0];exact Rd.nil _⟩
 ·subst hv;exact ⟨_,cap,rfl,hl,hm,Rd.of_own h⟩
theorem Fl.offp (h:Fl w B (.slice A n c) l) {p:Addr} (ho:∀ a,A=some a->0<n->a.block≠p.block) (v:Value):Fl (w.setCell p v) B (.slice A n c) l:=by
 obtain ⟨h1,h2,h3⟩:=h.len
 subst h1
 refine ⟨A,c,rfl,h2,h3,h.rd.1,fun hn=>?_⟩
 obtain ⟨b,o,e,hb,hc⟩:=h.rd.2 hn
 have:=ho _ e hn
 exact ⟨b,o,e,hb,fun j u hu=>(World.cell?_setCell_other w p _ v (fun e'=>by have e2:=congrArg Addr.block e';simp at e2 this;omega)).trans (hc j u hu)⟩
theorem Fl.atg {k:Nat} (h:Fl w B (.slice A n c) l) (hk:k<l.length):∃ b o,A=some ⟨b,o,none⟩/\b<B/\w.cell? ⟨b,o+k,none⟩=some (.int .i64 (ig l k)):=by
 have hn:=h.len.1
 obtain ⟨b,o,e,hb,hc⟩:=h.rd.2 (by omega)
 rw [ig_get hk]
 exact ⟨b,o,e,hb,hc _ _ (by simp [ics,hk,i64v])⟩
end
structure Dx where
 A:Option Addr
 c:Nat
 A2:Option Addr
 c2:Nat
def zDx:Dx:=⟨none,0,none,0⟩
abbrev dv (d:Dd) (X:Dx):Value:=.agg #[.int .i64 d.vn,.slice X.A d.l.length X.c,.slice X.A2 d.F.length X.c2]
structure DR (W:World) (B:Nat) (d:Dd) (X:Dx):Prop where
 pl:Pl W B (.slice X.A d.l.length X.c) d.l
 fl:Fl W B (.slice X.A2 d.F.length X.c2) d.F
section
variable {W W' : World} {B B' p:Nat} {d:Dd} {X:Dx}
theorem DR.below (h:DR W B d X) (hb:Below B W W'):DR W' B d X:=⟨h.pl.below hb,h.fl.below hb⟩
theorem DR.more (h:DR W B d X) (hB:B<=B'):DR W B' d X:=⟨h.pl.more hB,h.fl.more hB⟩
theorem DR.up (h:DR W W.heap.size d X) (hb:Below W.heap.size W W'):DR W' W'.heap.size d X:=(h.below hb).more hb.size
theorem DR.zero:DR W B zD10 zDx:=⟨Pl.nil,Fl.nil⟩
theorem DR.alloc (h:DR W W.heap.size d X) (o:Obj):DR (W.alloc o) (W.alloc o).heap.size d X:=h.up ((Below.refl _ _).alloc (nLR _) o)
structure DOff (d:Dd) (X:Dx) (p:Nat):Prop where
 o1:∀ a,X.A=some a->0<d.l.length->a.block≠p
 o2:∀ a,X.A2=some a->0<d.F.length->a.block≠p
theorem DR.offs (h:DR W B d X) (hp:B<=p):DOff d X p:=by
 refine ⟨fun a e h0=>?_,fun a e h0=>?_⟩
 ·obtain ⟨b,o,e2,hb,_⟩:=h.pl.rd.2 h0
  rw [e2] at e;injection e with e;subst e;show b≠p;omega
 ·obtain ⟨b,o,e2,hb,_⟩:=h.fl.rd.2 h0
  rw [e2] at e;injection e with e;subst e;show b≠p;omega
theorem DR.offp (h:DR W B d X) {q:Addr} (ho:DOff d X q.block) (v:Value):DR (W.setCell q v) B d X:=⟨h.pl.offp ho.o1 v,h.fl.offp ho.o2 v⟩
def Dx.nw (X:Dx) (lo:Nat):Prop:=Nw lo X.A/\Nw lo X.A2
theorem Dx.nw.off {lo:Nat} (h:X.nw lo) (hp:p<lo):DOff d X p:=⟨fun a e _=>by have:=h.1 a e;omega,fun a e _=>by have:=h.2 a e;omega⟩
theorem Dx.nw.low {lo lo' : Nat} (h:X.nw lo) (hp:lo'<=lo):X.nw lo':=⟨nw_low h.1 hp,nw_low h.2 hp⟩
theorem zDx_nw (lo:Nat):zDx.nw lo:=⟨nw_none,nw_none⟩
end
structure Db10 (W:World) (p:Nat) (d:Dd) (X:Dx):Prop where
 c0:W.cell? ⟨p,0,none⟩=some (.int .i64 d.vn)
 c1:W.cell? ⟨p,1,none⟩=some (.slice X.A d.l.length X.c)
 c2:W.cell? ⟨p,2,none⟩=some (.slice X.A2 d.F.length X.c2)
 fr:∀ o,W.frozen? ⟨p,o,none⟩=false
 lt:p<W.heap.size
section
variable {W W' : World} {p:Nat} {d:Dd} {X:Dx}
theorem Db10.keep (h:Db10 W p d X) (hc:∀ o,W'.cell? ⟨p,o,none⟩=W.cell? ⟨p,o,none⟩) (hf:∀ o,W'.frozen? ⟨p,o,none⟩=W.frozen? ⟨p,o,none⟩) (hs:W.heap.size<=W'.heap.size):Db10 W' p d X:=
 ⟨(hc 0).trans h.c0,(hc 1).trans h.c1,(hc 2).trans h.c2,fun o=>(hf o).trans (h.fr o),Nat.lt_of_lt_of_le h.lt hs⟩
theorem Db10.up (h:Db10 W p d X) (hb:Below W.heap.size W W'):Db10 W' p d X:=h.keep (fun o=>hb.cell (p:=⟨p,o,none⟩) h.lt) (fun o=>hb.frozen (p:=⟨p,o,none⟩) h.lt) hb.size
theorem Db10.alloc (h:Db10 W p d X) (o:Obj):Db10 (W.alloc o) p d X:=h.up ((Below.refl _ _).alloc (nLR _) o)
theorem Db10.other (h:Db10 W p d X) {a:Addr} (hne:a.block≠p) (v:Value):Db10 (W.setCell a v) p d X:=
 h.keep (fun o=>World.cell?_setCell_other W a ⟨p,o,none⟩ v (fun e=>hne (by rw [e]))) (fun o=>by simp [go_sem]) (by simp)
theorem Db10.start (w:World) (d:Dd) (X:Dx) (t:TypeId):Db10 (w.alloc (.cells #[.int .i64 d.vn,.slice X.A d.l.length X.c,.slice X.A2 d.F.length X.c2] t)) w.heap.size d X:=
 ⟨by simp [go_sem],by simp [go_sem],by simp [go_sem],fun o=>by simp [go_sem],by simp⟩
theorem Db10.zero (w:World) (t:TypeId):Db10 (w.alloc (.cells #[.int .i64 0,.slice none 0 0,.slice none 0 0] t)) w.heap.size zD10 zDx:=Db10.start w zD10 zDx t
theorem Db10.all (h:Db10 W p d X):(W.cell? ⟨p,0,none⟩=some (.int .i64 d.vn)/\W.cell? ⟨p,1,none⟩=some (.slice X.A d.l.length X.c)/\W.cell? ⟨p,2,none⟩=some (.slice X.A2 d.F.length X.c2)/\p<W.heap.size)/\W.frozen? ⟨p,0,none⟩=false/\W.frozen? ⟨p,1,none⟩=false/\W.frozen? ⟨p,2,none⟩=false:=⟨⟨h.c0,h.c1,h.c2,h.lt⟩,h.fr 0,h.fr 1,h.fr 2⟩
end
structure DAt (w:World) (p:Nat) (d:Dd) (X:Dx) (W:World):Prop where
 db:Db10 W p d X
 dr:DR W W.heap.size d X
 off:DOff d X p
 bel:Below w.heap.size w W
 old:w.heap.size<=p
section
variable {w W W' : World} {p:Nat} {d:Dd} {X:Dx}
theorem DAt.start {w:World} {d:Dd} {X:Dx} (t:TypeId) (h:DR w w.heap.size d X):DAt w w.heap.size d X (w.alloc (.cells #[.int .i64 d.vn,.slice X.A d.l.length X.c,.slice X.A2 d.F.length X.c2] t)):=
 ⟨Db10.start w d X t,h.alloc _,h.offs (nLR _),(Below.refl _ _).alloc (nLR _) _,nLR _⟩
theorem DAt.below (h:DAt w p d X W) (hb:Below W.heap.size W W'):DAt w p d X W':=⟨h.db.up hb,h.dr.up hb,h.off,h.bel.trans (hb.mono h.bel.size),h.old⟩
theorem DAt.alloc (h:DAt w p d X W) (o:Obj):DAt w p d X (W.alloc o):=h.below ((Below.refl _ _).alloc (nLR _) o)
abbrev K3 (p:Nat) (d:Dd) (X:Dx) (W:World):Prop:=W.cell? ⟨p,0,none⟩=some (.int .i64 d.vn)/\W.cell? ⟨p,1,none⟩=some (.slice X.A d.l.length X.c)/\W.cell? ⟨p,2,none⟩=some (.slice X.A2 d.F.length X.c2)
end
def wiR (n lo hi:Int):Bool:=decide (lo<=n/\n<=hi)
theorem wiR_true {n lo hi:Int} (h1:lo<=n) (h2:n<=hi):wiR n lo hi=true:=decide_eq_true ⟨h1,h2⟩
theorem wiR_low {n lo hi:Int} (h1:¬lo<=n):wiR n lo hi=false:=decide_eq_false (fun h=>h1 h.1)
theorem wiR_high {n lo hi:Int} (h1:¬n<=hi):wiR n lo hi=false:=decide_eq_false (fun h=>h1 h.2)
theorem rwithin_any (n lo hi:Int) (w:World):Calls Tryz.prog 40 #[.int .i64 n,.int .i64 lo,.int .i64 hi] w fun e w'=>e=.returned (.bool (wiR n lo hi))/\w=w':=by
 by_cases h1:lo<=n
 ·by_cases h2:n<=hi
  ·have H:=Lh (wiR_true h1 h2)
   go_enter Tryz.func40,Tryz.ntmps40
   go_wp2
   go_ret
   exact ⟨by rw [H.out];rfl,rfl⟩
  ·have H:=Lh (wiR_high (lo:=lo) h2)
   go_enter Tryz.func40,Tryz.ntmps40
   go_wp2
   go_ret
   exact ⟨by rw [H.out];rfl,rfl⟩
 ·have H:=Lh (wiR_low (hi:=hi) h1)
  go_enter Tryz.func40,Tryz.ntmps40
  go_wp2
  go_ret
  exact ⟨by rw [H.out];rfl,rfl⟩
theorem sfind1_any (d:Sp) (s:Int) (p:Nat) (w:World) (hp:p<w.heap.size) (hc:w.cell? ⟨p,0,none⟩=some (.int .i64 s)) :
  Calls Tryz.prog 107 #[d.v,.pointer (some ⟨p,0,none⟩)] w fun e w'=>e=.returned (.bool (decide (d.sh=s)))/\Below w.heap.size w w':=by
 have HB:=Lh ((Below.refl w.heap.size w).alloc (nLR _) (.cells #[.int .i64 d.lo,.int .i64 d.hi,.int .i64 d.sh] 113))
 have HD:=Lh (show (d.sh==s)=decide (d.sh=s) by rw [Bool.eq_iff_iff];simp)
 go_enter Tryz.func107,Tryz.ntmps107
 go_wp2
 go_ret
 exact ⟨by rw [<-HD.out];rfl,HB.out⟩
theorem sixfunc_any (A:Option Addr) (n c:Nat) (l:List Sp) (s:Int) (p:Nat) (w:World) (hv:Pl w w.heap.size (.slice A n c) l) (hp:p<w.heap.size) (hc:w.cell? ⟨p,0,none⟩=some (.int .i64 s)) :
  Calls Tryz.prog 106 #[.slice A n c,.func (.func 107) #[] #[.pointer (some ⟨p,0,none⟩)]] w fun e w'=>e=.returned (.int .i64 (ixS l s))/\Below w.heap.size w w':=by
 obtain ⟨rfl,hm1,hm2⟩:=hv.len
 have hL:l.length<=9223372036854775807:=by unfold maxLen at hm2;omega
 have HV:=Lh hv
 have HP:=Lh hp
 have HC:=Lh hc
 have HB:=Lh (Below.refl w.heap.size w)
 clear hv hm1 hm2 hp hc
 go_enter Tryz.func106,Tryz.ntmps106
 go_wp2
 go_loopw [8] (fun i wr=>∃ k:Nat,k<=l.length/\i=.int .i64 k/\Below w.heap.size w wr/\∀ j,j<k->(sg l j).sh≠s) (fun i _=>l.length - (intOf i).toNat)
 case atStart=>exact ⟨0,by omega,rfl,HB.out,fun j h=>absurd h (by omega)⟩
 case round=>
  obtain ⟨k,hk,rfl,hb,hno⟩:=hrel
  have HN:=Lh hno
  have HVK:=Lh (HV.out.below hb)
  have HPK:=Lh (Nat.lt_of_lt_of_le HP.out hb.size)
  have HCK:=Lh ((hb.cell (p:=⟨p,0,none⟩) HP.out).trans HC.out)
  have HB:=Lh hb
  clear hno hb
  by_cases hlt:k<l.length
  ·obtain ⟨b,o,rfl,hb,c0,c1,c2⟩:=HVK.out.atg hlt
   have HF:=Lh (fun w1 hp hc=>sfind1_any (sg l k) s p w1 hp hc)
   by_cases he:(sg l k).sh=s
   ·have HR:=Lh (ixS_hit hlt he HN.out)
    rw [decide_eq_true he] at HF
    clear he
    generalize sg l k=M at*
    go_wp2_with fail
    refine (HF.out _ HPK.out HCK.out).mono ?_
    rintro e w1 ⟨rfl,hb1⟩
    have HB1:=Lh (HB.out.trans (hb1.mono HB.out.size))
    clear hb1
    go_wp2
    go_ret
    exact ⟨by rw [HR.out];rfl,HB1.out⟩
   ·have HNN:=Lh (show ∀ j,j<k+1->(sg l j).sh≠s from fun j h=>by
     by_cases e:j=k
     ·rw [e];exact he
     ·exact HN.out j (by omega))
    rw [decide_eq_false he] at HF
    clear he
    generalize sg l k=M at*
    go_wp2_with fail
    refine (HF.out _ HPK.out HCK.out).mono ?_
    rintro e w1 ⟨rfl,hb1⟩
    have HB1:=Lh (HB.out.trans (hb1.mono HB.out.size))
    clear hb1
    go_wp2
    go_roundw
    case rel=>exact ⟨k+1,by omega,by go_num,HB1.out,HNN.out⟩
    case measure=>simp [intOf];omega
  ·have HR:=Lh (ixS_none (s:=s) (fun j hj=>HN.out j (by omega)))
   go_wp2
   go_ret
   exact ⟨by rw [HR.out];rfl,HB.out⟩
theorem sfind_any (A:Option Addr) (n c:Nat) (l:List Sp) (s:Int) (w:World) (hv:Pl w w.heap.size (.slice A n c) l) :
  Calls Tryz.prog 72 #[.slice A n c,.int .i64 s] w fun e w'=>e=.returned (.int .i64 (ixS l s))/\Below w.heap.size w w':=by
 have HC:=Lh (sixfunc_any A n c l s w.heap.size (w.alloc (.cells #[.int .i64 s] 3)) ((hv.alloc (nLR _) _).more (by simp)) (by simp) (by simp [go_sem]))
 have HB:=Lh ((Below.refl w.heap.size w).alloc (nLR _) (.cells #[.int .i64 s] 3))
 have hmf:∀ (fn:Fn) (first cap:Array Value) (w:World),(Instr.makeFunc fn first cap).run Tryz.prog w=.ok (.func fn first cap) w:=fun _ _ _ _=>rfl
 clear hv
 generalize ixS l s=r at*
 go_enter Tryz.func72,Tryz.ntmps72
 go_wp2_with fail
 refine HC.out.mono ?_
 rintro e w1 ⟨rfl,hb1⟩
 have HB1:=Lh (HB.out.trans (hb1.mono HB.out.size))
 clear hb1
 go_wp2
 go_ret
 exact ⟨rfl,HB1.out⟩
theorem scovers_any (A:Option Addr) (n c:Nat) (l:List Sp) (w:World) (hv:Pl w w.heap.size (.slice A n c) l) :
  Calls Tryz.prog 100 #[.slice A n c] w fun e w'=>e=.returned (.bool (cvD 0 l))/\Below w.heap.size w w':=by
 obtain ⟨rfl,hm1,hm2⟩:=hv.len
 have hL:l.length<=9223372036854775807:=by unfold maxLen at hm2;omega
 have HV:=Lh hv
 have HB:=Lh (Below.refl w.heap.size w)
 have HN0:=Lh (nxD_zero l)
 clear hv hm1 hm2
 go_enter Tryz.func100,Tryz.ntmps100
 go_wp2
 go_loopw [3,8] (fun nx i wr=>∃ k:Nat,k<=l.length/\i=.int .i64 k/\nx=.int .i64 (nxD l k)/\Below w.heap.size w wr/\∀ j,j<k->spK l j) (fun _ i _=>l.length - (intOf i).toNat)
 case atStart=>exact ⟨0,by omega,rfl,by rw [HN0.out],HB.out,fun j h=>absurd h (by omega)⟩
 case round=>
  obtain ⟨k,hk,rfl,rfl,hb,hno⟩:=hrel
  have HN:=Lh hno
  have HVK:=Lh (HV.out.below hb)
  have HB:=Lh hb
  clear hno hb
  by_cases hlt:k<l.length
  ·obtain ⟨b,o,rfl,hb,c0,c1,c2⟩:=HVK.out.atg hlt
   have HW:=Lh (fun w1=>rwithin_any (sg l k).hi (sg l k).lo 65535 w1)
   have HX:=Lh (nxD_succ l k)
   have HA:=Lh (HB.out.alloc HB.out.size (.cells #[.int .i64 (sg l k).lo,.int .i64 (sg l k).hi,.int .i64 (sg l k).sh] 113))
   by_cases hs:spK l k
   ·have HNN:=Lh (show ∀ j,j<k+1->spK l j from fun j h=>by
     by_cases e:j=k
     ·rw [e];exact hs
     ·exact HN.out j (by omega))
    obtain ⟨h1,h2,h3⟩:=hs
    have hne:((sg l k).lo != nxD l k)=false:=by simpa using h1
    rw [wiR_true h2 h3] at HW
    have hh1:-9223372036854775808<=(sg l k).hi\/True:=.inr trivial
    have HNX:nxD l k=(sg l k).lo:=h1.symm
    have h0:0<=(sg l k).lo:=by
     rw [h1]
     cases k with
     | zero=>rw [nxD_zero];omega
     | succ k=>rw [nxD_succ];have:=(HN.out k (by omega)).1;have:=(HN.out k (by omega)).2.1;exact (by
       have hq:∀ j,j<k+1->0<=(sg l j).hi+1:=fun j=>by
        induction j with
        | zero=>intro hj;have a:=(HN.out 0 hj).1;have b:=(HN.out 0 hj).2.1;rw [nxD_zero] at a;omega
        | succ j ih=>intro hj;have a:=(HN.out (j+1) hj).1;have b:=(HN.out (j+1) hj).2.1;have c:=ih (by omega);rw [nxD_succ] at a;omega
       exact hq k (by omega))
    clear h1 hh1 HNX
    generalize nxD l k=nk at*
    generalize sg l k=M at*
    go_wp2_with fail
    refine (HW.out _).mono ?_
    rintro e w1 ⟨rfl,rfl⟩
    go_wp2
    go_roundw
    case rel=>exact ⟨k+1,by omega,by go_num,by rw [HX.out],HA.out,HNN.out⟩
    case measure=>simp [intOf];omega
   ·have HR:=Lh (cvD_no hlt hs)
    by_cases h1:(sg l k).lo=nxD l k
    ·have hne:((sg l k).lo != nxD l k)=false:=by simpa using h1
     have hwf:wiR (sg l k).hi (sg l k).lo 65535=false:=decide_eq_false fun h=>hs ⟨h1,h.1,h.2⟩
     rw [hwf] at HW
     clear h1 hs hwf
     generalize nxD l k=nk at*
     generalize sg l k=M at*
     go_wp2_with fail
     refine (HW.out _).mono ?_
     rintro e w1 ⟨rfl,rfl⟩
     go_wp2
     go_ret
     exact ⟨by rw [HR.out];rfl,HA.out⟩
    ·have hne:((sg l k).lo != nxD l k)=true:=bne_iff_ne.2 h1
     clear h1 hs
     generalize nxD l k=nk at*
     generalize sg l k=M at*
     go_wp2
     go_ret
     exact ⟨by rw [HR.out];rfl,HA.out⟩
  ·obtain rfl:k=l.length:=by omega
   have HR:=Lh (show (nxD l l.length==65536)=cvD 0 l by rw [cvD_end HN.out,Bool.eq_iff_iff];simp)
   go_wp2
   go_ret
   exact ⟨by rw [<-HR.out];rfl,HB.out⟩
theorem info_sp:(Tryz.prog.info? 113).map (fun i=>(i.zero,i.size,i.bytes))=some (some (Sp.v zSp),3,24):=by kernel_rfl
def SPClP (w:World) (l:List Sp) (e:Ending) (w' : World):Prop:=∃ v,e=.returned v/\w'.ownsRow w.heap.size 113 3 v l.length (scs l)/\Below w.heap.size w w'
theorem spclone_end {w w1:World} {l:List Sp} {v1:Value} {o:Obj} (hown:w1.ownsRow w.heap.size 113 3 v1 (0+l.length) ([]++scs l)) (hg:(w.alloc o).grownBy w1 (Value.ownBlock (.slice (some ⟨w.heap.size,0,none⟩) 0 0))):SPClP w l (.returned v1) w1:=by
 rw [Nat.zero_add,List.nil_append] at hown
 exact ⟨v1,rfl,hown,(((Below.refl _ _).alloc (nLR _) o)).grown hg (by simp) (fun k hk=>by simp [Value.ownBlock] at hk;omega)⟩
theorem spclone_any (A:Option Addr) (n c:Nat) (l:List Sp) (w:World) (hv:Pl w w.heap.size (.slice A n c) l) (h2:n<=1000) :
  Calls Tryz.prog 77 #[.slice A n c] w (SPClP w l):=by
 obtain ⟨rfl,hm1,hm2⟩:=hv.len
 obtain ⟨i0,hi0,hz0⟩:=Option.map_eq_some_iff.1 info_sp
 simp only [Prod.mk.injEq] at hz0
 have HI:=Lh hi0
 have HZ:=Lh hz0
 have HV:=Lh hv
 have heq:∀ W,(binOp .eql 32 (.slice A l.length c) (.slice none 0 0)).run Tryz.prog W=.ok (.bool A.isNone) W:=fun W=>Lib.run_eql_slice_nil W _ _ _ _ _ _ _ Tryz.underlying32
 have HRD:=Lh hv.rd
 clear hv hi0 hz0
 cases A with
 | none=>
  have hl:l=[]:=by
   cases l with
   | nil=>rfl
   | cons d l=>obtain ⟨b,o,e,_⟩:=HRD.out.2 (by simp);cases e
  subst hl
  have HP:=Lh (show SPClP w [] (.returned (.slice none 0 0)) w from ⟨_,rfl,World.ownsRow_nil w _ _ _,Below.refl _ _⟩)
  simp only [List.length_nil,Option.isNone_none] at heq ⊢
  go_enter Tryz.func77,Tryz.ntmps77
  go_wp2
  go_ret
  exact HP.out
 | some a=>
  simp only [Option.isNone_some] at heq
  go_enter Tryz.func77,Tryz.ntmps77
  go_wp2_with (at_builtin;refine wpList_append_rd _ rfl (.tmp 5) (.tmp 6) 32 rfl w.heap.size 113 i0 _ 3 24 Tryz.underlying32 HI.out HZ.out.1 HZ.out.2.1 HZ.out.2.2 rfl (by omega) (.slice (some ⟨w.heap.size,0,none⟩) 0 0) 0 [] rfl (World.ownsRow_made w #[] 0 (nLR _) (Nat.zero_le _) rfl) w.heap.size (some a) l.length c (scs l) rfl (HV.out.alloc (nLR _) _).rd (scs_one l) (by unfold maxLen;omega) (by omega) (by simp) ?_;intro v1 w1 hown1 hg1 hat1)
  have HP:=Lh (spclone_end hown1 hg1)
  clear hown1 hg1 hat1
  go_wp2
  go_ret
  exact HP.out
theorem info_ni:(Tryz.prog.info? 3).map (fun i=>(i.zero,i.size,i.bytes))=some (some (.int .i64 0),1,8):=by kernel_rfl
def NIClP (w:World) (l:List Int) (e:Ending) (w' : World):Prop:=∃ v,e=.returned v/\w'.ownsRow w.heap.size 3 1 v l.length (ics l)/\Below w.heap.size w w'
theorem niclone_end {w w1:World} {l:List Int} {v1:Value} {o:Obj} (hown:w1.ownsRow w.heap.size 3 1 v1 (0+l.length) ([]++ics l)) (hg:(w.alloc o).grownBy w1 (Value.ownBlock (.slice (some ⟨w.heap.size,0,none⟩) 0 0))):NIClP w l (.returned v1) w1:=by
 rw [Nat.zero_add,List.nil_append] at hown
 exact ⟨v1,rfl,hown,(((Below.refl _ _).alloc (nLR _) o)).grown hg (by simp) (fun k hk=>by simp [Value.ownBlock] at hk;omega)⟩
theorem niclone_any (A:Option Addr) (n c:Nat) (l:List Int) (w:World) (hv:Fl w w.heap.size (.slice A n c) l) (h2:n<=1000) :
  Calls Tryz.prog 46 #[.slice A n c] w (NIClP w l):=by
 obtain ⟨rfl,hm1,hm2⟩:=hv.len
 obtain ⟨i0,hi0,hz0⟩:=Option.map_eq_some_iff.1 info_ni
 simp only [Prod.mk.injEq] at hz0
 have HI:=Lh hi0
 have HZ:=Lh hz0
 have HV:=Lh hv
 have heq:∀ W,(binOp .eql 22 (.slice A l.length c) (.slice none 0 0)).run Tryz.prog W=.ok (.bool A.isNone) W:=fun W=>Lib.run_eql_slice_nil W _ _ _ _ _ _ _ Tryz.underlying22
 have HRD:=Lh hv.rd
 clear hv hi0 hz0
 cases A with
 | none=>
  have hl:l=[]:=by
   cases l with
   | nil=>rfl
   | cons d l=>obtain ⟨b,o,e,_⟩:=HRD.out.2 (by simp);cases e
  subst hl
  have HP:=Lh (show NIClP w [] (.returned (.slice none 0 0)) w from ⟨_,rfl,World.ownsRow_nil w _ _ _,Below.refl _ _⟩)
  simp only [List.length_nil,Option.isNone_none] at heq ⊢
  go_enter Tryz.func46,Tryz.ntmps46
  go_wp2
  go_ret
  exact HP.out
 | some a=>
  simp only [Option.isNone_some] at heq
  go_enter Tryz.func46,Tryz.ntmps46
  go_wp2_with (at_builtin;refine wpList_append_rd _ rfl (.tmp 5) (.tmp 6) 22 rfl w.heap.size 3 i0 _ 1 8 Tryz.underlying22 HI.out HZ.out.1 HZ.out.2.1 HZ.out.2.2 rfl (by omega) (.slice (some ⟨w.heap.size,0,none⟩) 0 0) 0 [] rfl (World.ownsRow_made w #[] 0 (nLR _) (Nat.zero_le _) rfl) w.heap.size (some a) l.length c (ics l) rfl (HV.out.alloc (nLR _) _).rd (ics_one l) (by unfold maxLen;omega) (by omega) (by simp) ?_;intro v1 w1 hown1 hg1 hat1)
  have HP:=Lh (niclone_end hown1 hg1)
  clear hown1 hg1 hat1
  go_wp2
  go_ret
  exact HP.out
end Go.Proofs.YtkecnihgjepfeaaGreat
