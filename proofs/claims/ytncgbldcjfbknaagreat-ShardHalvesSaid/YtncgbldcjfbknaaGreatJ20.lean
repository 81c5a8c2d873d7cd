/- What is proved here: (plain) a slice that reads as a list of numbers; (plain) lists of spans and of numbers that lie in memory, directories; Qm; slices.Clone of slots, of stripes and of messages by contracts: the copies are the call's own; due.Remove by a contract. -/
import Derived.Test.YtncgbldcjfbknaaGreatJ01
import Derived.Test.YtncgbldcjfbknaaGreatJ19
namespace Go.Proofs.YtncgbldcjfbknaaGreat
open Go.RowKit
set_option linter.unusedVariables false
/-- A value that is a slice, reads as the numbers zs and lies below B. -/
def Ns (w:World) (B:Nat) (v:Value) (zs:List Int):Prop:=∃ A c,v=.slice A zs.length c∧zs.length≤c∧c≤maxLen∧Rd w B 1 A zs.length (zs.map i64v)∧∀ z∈zs,-9223372036854775808≤z∧z≤9223372036854775807
section
variable {w w' : World} {B B' : Nat} {v:Value} {zs:List Int}
theorem Ns.nil:Ns w B (.slice none 0 0) []:=⟨none,0,rfl,Nat.le_refl _,Nat.zero_le _,Rd.nil none,by simp⟩
theorem Ns.below (h:Ns w B v zs) (hb:Below B w w'):Ns w' B v zs:=by
 obtain ⟨A,c,e,hl,hm,h,hz⟩:=h;exact ⟨A,c,e,hl,hm,h.below hb,hz⟩
theorem Ns.parts {A:Option Addr} {n c:Nat} (h:Ns w B (.slice A n c) zs):n=zs.length∧n≤c∧c≤maxLen∧Rd w B 1 A n (zs.map i64v)∧∀ z∈zs,-9223372036854775808≤z∧z≤9223372036854775807:=by
 obtain ⟨A',c',e,hl,hm,h,hz⟩:=h
 injection e with e1 e2 e3
 subst e1;subst e2;subst e3
 exact ⟨rfl,hl,hm,h,hz⟩
/-- From the way in which the guide opens a slice of numbers that came in. -/
theorem Ns.of_cells {a:Addr} {l c:Nat} {zs:List Int} (hl:l≤c) (hm:c≤maxLen) (hz:zs.length=c) (hc:∀ i,i<zs.length→w.cell? (a.add i)=some (.int .i64 (zs.getD i 0))) (hw:∀ n∈zs,(Lit.int .i64 n).wf=true) :
  ∃ ys,Ns w w.heap.size (.slice (some a) l c) ys:=by
 have hlen:(zs.take l).length=l:=by simp;omega
 refine ⟨zs.take l,some a,c,by rw [hlen],by omega,hm,⟨by simp,fun hn=>?_⟩,fun z hz'=>?_⟩
 ·rw [hlen] at hn
  obtain ⟨b,o,spot⟩:=a
  have h0:=hc 0 (by omega)
  have hspot:spot=none:=by simpa [Addr.add] using World.cell?_spot h0
  subst hspot
  refine ⟨b,o,rfl,World.block_lt_of_cell? w ⟨b,o,none⟩ (by simpa [Addr.add] using h0),fun j u hu=>?_⟩
  simp only [List.getElem?_map,Option.map_eq_some_iff] at hu
  obtain ⟨x,hx,rfl⟩:=hu
  obtain ⟨hj,rfl⟩:=List.getElem?_eq_some_iff.1 hx
  have hj' : j<zs.length:=by simp at hj;omega
  have h:=hc j hj'
  rw [add_mk] at h
  rw [h]
  simp [i64v,List.getD,hj']
 ·have:=hw z (List.mem_of_mem_take hz')
  simp only [Lit.wf,Bool.and_eq_true,decide_eq_true_eq] at this
  exact this
end
/-- The cells of a span. -/
def Sp.l (d:Sp):List Value:=[.int .i64 d.lo,.int .i64 d.hi,.int .i64 d.sh]
/-- The span as a value. -/
abbrev Sp.v (d:Sp):Value:=.agg #[.int .i64 d.lo,.int .i64 d.hi,.int .i64 d.sh]
theorem Sp.l_len (d:Sp):d.l.length=3:=rfl
theorem Sp.l_one (d:Sp):∀ u∈d.l,u.oneCell' = true:=by
 intro u hu
 simp only [Sp.l,List.mem_cons,List.not_mem_nil,or_false] at hu
 rcases hu with rfl | rfl | rfl <;> rfl
def scs (l:List Sp):List Value:=l.flatMap Sp.l
theorem scs_cons (d:Sp) (l:List Sp):scs (d::l)=d.l++scs l:=rfl
theorem scs_len (l:List Sp):(scs l).length=l.length*3:=by
 induction l with
 | nil=>rfl
 | cons d l ih=>rw [scs_cons,List.length_append,ih,Sp.l_len];simp;omega
theorem scs_drop (l:List Sp) (k:Nat):(scs l).drop (k*3)=scs (l.drop k):=by
 induction k generalizing l with
 | zero=>simp
 | succ k ih=>
  cases l with
  | nil=>simp [scs]
  | cons d l=>
   rw [scs_cons,List.drop_succ_cons,←ih,show (k+1)*3=d.l.length+k*3 by rw [Sp.l_len];omega,List.drop_append,List.drop_eq_nil_of_le (by omega)]
   simp
theorem scs_take (l:List Sp) (k:Nat):(scs l).take (k*3)=scs (l.take k):=by
 induction k generalizing l with
 | zero=>simp [scs]
 | succ k ih=>
  cases l with
  | nil=>simp [scs]
  | cons d l=>
   rw [scs_cons,List.take_succ_cons,scs_cons,←ih,show (k+1)*3=d.l.length+k*3 by rw [Sp.l_len];omega,List.take_append,List.take_of_length_le (by omega)]
   simp
theorem scs_at (l:List Sp) (k j:Nat) (hk:k<l.length) (hj:j<3):(scs l)[k*3+j]? = l[k].l[j]?:=by
 have h:=scs_drop l k
 have e:(scs l)[k*3+j]? = ((scs l).drop (k*3))[j]?:=by rw [List.getElem?_drop]
 rw [e,h,List.drop_eq_getElem_cons hk,scs_cons,List.getElem?_append_left (by rw [Sp.l_len];exact hj)]
def ics (F:List Int):List Value:=F.map i64v
theorem ics_len (F:List Int):(ics F).length=F.length*1:=by simp [ics]
/-- A value that is a slice, reads as these spans and lies below B. -/
def Pl (w:World) (B:Nat) (v:Value) (l:List Sp):Prop:=∃ A c,v=.slice A l.length c∧l.length≤c∧c≤maxLen∧Rd w B 3 A l.length (scs l)
section
variable {w w' : World} {B B' : Nat} {v:Value} {l:List Sp} {A:Option Addr} {n c:Nat}
theorem Pl.nil:Pl w B (.slice none 0 0) []:=⟨none,0,rfl,Nat.le_refl _,Nat.zero_le _,Rd.nil none⟩
theorem Pl.keep (h:Pl w B v l) (hk:∀ p:Addr,p.block<B→w'.cell? p=w.cell? p):Pl w' B v l:=by
 obtain ⟨A,c,e,hl,hm,h⟩:=h;exact ⟨A,c,e,hl,hm,h.keep hk⟩
theorem Pl.more (h:Pl w B v l) (hB:B≤B'):Pl w B' v l:=by
 obtain ⟨A,c,e,hl,hm,h⟩:=h;exact ⟨A,c,e,hl,hm,h.more hB⟩
theorem Pl.below (h:Pl w B v l) (hb:Below B w w'):Pl w' B v l:=h.keep fun _ hp=>hb.cell hp
theorem Pl.up (h:Pl w w.heap.size v l) (hb:Below w.heap.size w w'):Pl w' w'.heap.size v l:=(h.below hb).more hb.size
theorem Pl.alloc (h:Pl w B v l) (hB:B≤w.heap.size) (o:Obj):Pl (w.alloc o) B v l:=h.keep fun p hp=>World.cell?_alloc_lt w o p (by omega)
theorem Pl.setCell (h:Pl w B v l) {p:Addr} (hB:B≤p.block) (u:Value):Pl (w.setCell p u) B v l:=
 h.keep fun q hq=>World.cell?_setCell_other w p q u (fun e=>by subst e;omega)
theorem Pl.len (h:Pl w B (.slice A n c) l):n=l.length∧n≤c∧c≤maxLen:=by
 obtain ⟨A',c',e,hl,hm,h⟩:=h
 injection e with e1 e2 e3
 subst e2;subst e3
 exact ⟨rfl,hl,hm⟩
theorem Pl.rd (h:Pl w B (.slice A n c) l):Rd w B 3 A n (scs l):=by
 obtain ⟨A',c',e,hl,hm,h⟩:=h
 injection e with e1 e2 e3
 subst e1;subst e2
 exact h
theorem Pl.form (h:Pl w B v l):∃ A c,v=.slice A l.length c∧l.length≤c∧c≤maxLen:=by
 obtain ⟨A,c,e,hl,hm,_⟩:=h;exact ⟨A,c,e,hl,hm⟩
theorem Pl.of_own {base:Nat} {e:TypeId} {n:Nat} (h:w.ownsRow base e 3 v n (scs l)):Pl w w.heap.size v l:=by
 have hl:n=l.length:=by have:=h.1;rw [scs_len] at this;omega
 subst hl
 rcases h.2 with ⟨hv,h0⟩ | ⟨g,cap,cur,hv,_,_,hl,hm,_⟩
 ·subst hv;exact ⟨none,0,by rw [h0],by omega,Nat.zero_le _,by rw [show l=[] from List.length_eq_zero_iff.1 h0];exact Rd.nil _⟩
 ·subst hv;exact ⟨_,cap,rfl,hl,hm,Rd.of_own h⟩
theorem Pl.offp (h:Pl w B (.slice A n c) l) {p:Addr} (ho:∀ a,A=some a→0<n→a.block≠p.block) (v:Value):Pl (w.setCell p v) B (.slice A n c) l:=by
 obtain ⟨h1,h2,h3⟩:=h.len
 subst h1
 refine ⟨A,c,rfl,h2,h3,h.rd.1,fun hn=>?_⟩
 obtain ⟨b,o,e,hb,hc⟩:=h.rd.2 hn
 have:=ho _ e hn
 exact ⟨b,o,e,hb,fun j u hu=>(World.cell?_setCell_other w p _ v (fun e'=>by have e2:=congrArg Addr.block e';simp at e2 this;omega)).trans (hc j u hu)⟩
/-- The span at place k, and where it lies. -/
theorem Pl.atg {k:Nat} (h:Pl w B (.slice A n c) l) (hk:k<l.length):∃ b o,A=some ⟨b,o,none⟩∧b<B∧w.cell? ⟨b,o+k*3,none⟩=some (.int .i64 (sg l k).lo)∧w.cell? ⟨b,o+k*3+1,none⟩=some (.int .i64 (sg l k).hi)∧w.cell? ⟨b,o+k*3+2,none⟩=some (.int .i64 (sg l k).sh):=by
 have hn:=h.len.1
 obtain ⟨b,o,e,hb,hc⟩:=h.rd.2 (by omega)
 have g:∀ j u,j<3→l[k].l[j]? = some u→w.cell? ⟨b,o+k*3+j,none⟩=some u:=fun j u hj hu=>by
  rw [Nat.add_assoc];exact hc _ u (by rw [scs_at l k j hk hj];exact hu)
 rw [sg_get hk]
 exact ⟨b,o,e,hb,g 0 _ (by omega) rfl,g 1 _ (by omega) rfl,g 2 _ (by omega) rfl⟩
/-- A cut l[:k]. -/
theorem Pl.upto {k:Nat} (h:Pl w B (.slice A n c) l) (hk:k≤l.length):Pl w B (.slice A k c) (l.take k):=by
 obtain ⟨h1,h2,h3⟩:=h.len
 refine ⟨A,c,by rw [List.length_take,Nat.min_eq_left hk],by rw [List.length_take,Nat.min_eq_left hk];omega,h3,?_⟩
 rw [List.length_take,Nat.min_eq_left hk]
 refine ⟨by rw [scs_len,List.length_take,Nat.min_eq_left hk],fun h0=>?_⟩
 obtain ⟨b,o,e,hb,hc⟩:=h.rd.2 (by omega)
 exact ⟨b,o,e,hb,fun j u hu=>hc j u (by
  rw [←scs_take,List.getElem?_take] at hu
  split at hu
  ·exact hu
  ·cases hu)⟩
/-- A cut l[k:]. -/
theorem Pl.from {k:Nat} (h:Pl w B (.slice A n c) l) (hk:k≤l.length):Pl w B (.slice (if c=k then A else A.map (·.add (k*3))) (l.length - k) (c - k)) (l.drop k):=by
 obtain ⟨h1,h2,h3⟩:=h.len
 refine ⟨_,c - k,by rw [List.length_drop],by rw [List.length_drop];omega,by omega,?_⟩
 rw [List.length_drop]
 refine ⟨by rw [scs_len,List.length_drop],fun h0=>?_⟩
 obtain ⟨b,o,e,hb,hc⟩:=h.rd.2 (by omega)
 rw [if_neg (by omega),e]
 refine ⟨b,o+k*3,by rw [Option.map_some,add_mk],hb,fun j u hu=>?_⟩
 rw [Nat.add_assoc]
 exact hc _ u (by rw [←scs_drop,List.getElem?_drop] at hu;exact hu)
end
/-- A value that is a slice, reads as these numbers and lies below B. -/
def Fl (w:World) (B:Nat) (v:Value) (l:List Int):Prop:=∃ A c,v=.slice A l.length c∧l.length≤c∧c≤maxLen∧Rd w B 1 A l.length (ics l)
section
variable {w w' : World} {B B' : Nat} {v:Value} {l:List Int} {A:Option Addr} {n c:Nat}
theorem Fl.nil:Fl w B (.slice none 0 0) []:=⟨none,0,rfl,Nat.le_refl _,Nat.zero_le _,Rd.nil none⟩
theorem Fl.keep (h:Fl w B v l) (hk:∀ p:Addr,p.block<B→w'.cell? p=w.cell? p):Fl w' B v l:=by
 obtain ⟨A,c,e,hl,hm,h⟩:=h;exact ⟨A,c,e,hl,hm,h.keep hk⟩
theorem Fl.more (h:Fl w B v l) (hB:B≤B'):Fl w B' v l:=by
 obtain ⟨A,c,e,hl,hm,h⟩:=h;exact ⟨A,c,e,hl,hm,h.more hB⟩
theorem Fl.below (h:Fl w B v l) (hb:Below B w w'):Fl w' B v l:=h.keep fun _ hp=>hb.cell hp
theorem Fl.up (h:Fl w w.heap.size v l) (hb:Below w.heap.size w w'):Fl w' w'.heap.size v l:=(h.below hb).more hb.size
theorem Fl.alloc (h:Fl w B v l) (hB:B≤w.heap.size) (o:Obj):Fl (w.alloc o) B v l:=h.keep fun p hp=>World.cell?_alloc_lt w o p (by omega)
theorem Fl.setCell (h:Fl w B v l) {p:Addr} (hB:B≤p.block) (u:Value):Fl (w.setCell p u) B v l:=
 h.keep fun q hq=>World.cell?_setCell_other w p q u (fun e=>by subst e;omega)
theorem Fl.len (h:Fl w B (.slice A n c) l):n=l.length∧n≤c∧c≤maxLen:=by
 obtain ⟨A',c',e,hl,hm,h⟩:=h
 injection e with e1 e2 e3
 subst e2;subst e3
 exact ⟨rfl,hl,hm⟩
theorem Fl.rd (h:Fl w B (.slice A n c) l):Rd w B 1 A n (ics l):=by
 obtain ⟨A',c',e,hl,hm,h⟩:=h
 injection e with e1 e2 e3
 subst e1;subst e2
 exact h
theorem Fl.form (h:Fl w B v l):∃ A c,v=.slice A l.length c∧l.length≤c∧c≤maxLen:=by
 obtain ⟨A,c,e,hl,hm,_⟩:=h;exact ⟨A,c,e,hl,hm⟩
theorem Fl.of_own {base:Nat} {e:TypeId} {n:Nat} (h:w.ownsRow base e 1 v n (ics l)):Fl w w.heap.size v l:=by
 have hl:n=l.length:=by have:=h.1;rw [ics_len] at this;omega
 subst hl
 rcases h.2 with ⟨hv,h0⟩ | ⟨g,cap,cur,hv,_,_,hl,hm,_⟩
 ·subst hv;exact ⟨none,0,by rw [h0],by omega,Nat.zero_le _,by rw [show l=[] from List.length_eq_zero_iff.1 h0];exact Rd.nil _⟩
 ·subst hv;exact ⟨_,cap,rfl,hl,hm,Rd.of_own h⟩
theorem Fl.offp (h:Fl w B (.slice A n c) l) {p:Addr} (ho:∀ a,A=some a→0<n→a.block≠p.block) (v:Value):Fl (w.setCell p v) B (.slice A n c) l:=by
 obtain ⟨h1,h2,h3⟩:=h.len
 subst h1
 refine ⟨A,c,rfl,h2,h3,h.rd.1,fun hn=>?_⟩
 obtain ⟨b,o,e,hb,hc⟩:=h.rd.2 hn
 have:=ho _ e hn
 exact ⟨b,o,e,hb,fun j u hu=>(World.cell?_setCell_other w p _ v (fun e'=>by have e2:=congrArg Addr.block e';simp at e2 this;omega)).trans (hc j u hu)⟩
/-- The number at place k, and where it lies. -/
theorem Fl.atg {k:Nat} (h:Fl w B (.slice A n c) l) (hk:k<l.length):∃ b o,A=some ⟨b,o,none⟩∧b<B∧w.cell? ⟨b,o+k,none⟩=some (.int .i64 (ig l k)):=by
 have hn:=h.len.1
 obtain ⟨b,o,e,hb,hc⟩:=h.rd.2 (by omega)
 rw [ig_get hk]
 exact ⟨b,o,e,hb,hc _ _ (by simp [ics,hk,i64v])⟩
end
/-- Where the lists of a directory lie. -/
structure Dx where
 A:Option Addr
 c:Nat
 A2:Option Addr
 c2:Nat
def zDx:Dx:=⟨none,0,none,0⟩
/-- A directory as a value. -/
abbrev dv (d:Dd) (X:Dx):Value:=.agg #[.int .i64 d.vn,.slice X.A d.l.length X.c,.slice X.A2 d.F.length X.c2]
/-- The lists of a directory read so, and lie below B. -/
structure DR (W:World) (B:Nat) (d:Dd) (X:Dx):Prop where
 pl:Pl W B (.slice X.A d.l.length X.c) d.l
 fl:Fl W B (.slice X.A2 d.F.length X.c2) d.F
section
variable {W W' : World} {B B' p:Nat} {d:Dd} {X:Dx}
theorem DR.below (h:DR W B d X) (hb:Below B W W'):DR W' B d X:=⟨h.pl.below hb,h.fl.below hb⟩
theorem DR.more (h:DR W B d X) (hB:B≤B'):DR W B' d X:=⟨h.pl.more hB,h.fl.more hB⟩
theorem DR.up (h:DR W W.heap.size d X) (hb:Below W.heap.size W W'):DR W' W'.heap.size d X:=(h.below hb).more hb.size
theorem DR.zero:DR W B zD10 zDx:=⟨Pl.nil,Fl.nil⟩
theorem DR.alloc (h:DR W W.heap.size d X) (o:Obj):DR (W.alloc o) (W.alloc o).heap.size d X:=h.up ((Below.refl _ _).alloc (Nat.le_refl _) o)
/-- The lists do not lie in block p. -/
structure DOff (d:Dd) (X:Dx) (p:Nat):Prop where
 o1:∀ a,X.A=some a→0<d.l.length→a.block≠p
 o2:∀ a,X.A2=some a→0<d.F.length→a.block≠p
theorem DR.offs (h:DR W B d X) (hp:B≤p):DOff d X p:=by
 refine ⟨fun a e h0=>?_,fun a e h0=>?_⟩
 ·obtain ⟨b,o,e2,hb,_⟩:=h.pl.rd.2 h0
  rw [e2] at e;injection e with e;subst e;show b≠p;omega
 ·obtain ⟨b,o,e2,hb,_⟩:=h.fl.rd.2 h0
  rw [e2] at e;injection e with e;subst e;show b≠p;omega
theorem DR.offp (h:DR W B d X) {q:Addr} (ho:DOff d X q.block) (v:Value):DR (W.setCell q v) B d X:=⟨h.pl.offp ho.o1 v,h.fl.offp ho.o2 v⟩
/-- Both lie from a block on. -/
def Dx.nw (X:Dx) (lo:Nat):Prop:=Nw lo X.A∧Nw lo X.A2
theorem Dx.nw.off {lo:Nat} (h:X.nw lo) (hp:p<lo):DOff d X p:=⟨fun a e _=>by have:=h.1 a e;omega,fun a e _=>by have:=h.2 a e;omega⟩
theorem Dx.nw.low {lo lo' : Nat} (h:X.nw lo) (hp:lo'≤lo):X.nw lo':=⟨nw_low h.1 hp,nw_low h.2 hp⟩
end
/-- Block p holds a directory, and may be written. -/
structure Db10 (W:World) (p:Nat) (d:Dd) (X:Dx):Prop where
 c0:W.cell? ⟨p,0,none⟩=some (.int .i64 d.vn)
 c1:W.cell? ⟨p,1,none⟩=some (.slice X.A d.l.length X.c)
 c2:W.cell? ⟨p,2,none⟩=some (.slice X.A2 d.F.length X.c2)
 fr:∀ o,W.frozen? ⟨p,o,none⟩=false
 lt:p<W.heap.size
section
variable {W W' : World} {p:Nat} {d:Dd} {X:Dx}
theorem Db10.keep (h:Db10 W p d X) (hc:∀ o,W'.cell? ⟨p,o,none⟩=W.cell? ⟨p,o,none⟩) (hf:∀ o,W'.frozen? ⟨p,o,none⟩=W.frozen? ⟨p,o,none⟩) (hs:W.heap.size≤W'.heap.size):Db10 W' p d X:=
 ⟨(hc 0).trans h.c0,(hc 1).trans h.c1,(hc 2).trans h.c2,fun o=>(hf o).trans (h.fr o),Nat.lt_of_lt_of_le h.lt hs⟩
theorem Db10.up (h:Db10 W p d X) (hb:Below W.heap.size W W'):Db10 W' p d X:=h.keep (fun o=>hb.cell (p:=⟨p,o,none⟩) h.lt) (fun o=>hb.frozen (p:=⟨p,o,none⟩) h.lt) hb.size
theorem Db10.alloc (h:Db10 W p d X) (o:Obj):Db10 (W.alloc o) p d X:=h.up ((Below.refl _ _).alloc (Nat.le_refl _) o)
theorem Db10.other (h:Db10 W p d X) {a:Addr} (hne:a.block≠p) (v:Value):Db10 (W.setCell a v) p d X:=
 h.keep (fun o=>World.cell?_setCell_other W a ⟨p,o,none⟩ v (fun e=>hne (by rw [e]))) (fun o=>by simp [go_sem]) (by simp)
theorem Db10.grown {g:Nat} (h:Db10 W p d X) (hg:W.grownBy W' (some g)) (hne:p≠g):Db10 W' p d X:=h.keep (fun o=>hg.cell_far ⟨p,o,none⟩ h.lt (fun e=>by injection e with e;exact hne e)) (fun o=>hg.frozen_far ⟨p,o,none⟩ h.lt (fun e=>by injection e with e;exact hne e)) hg.size
theorem Db10.start (w:World) (d:Dd) (X:Dx) (t:TypeId):Db10 (w.alloc (.cells #[.int .i64 d.vn,.slice X.A d.l.length X.c,.slice X.A2 d.F.length X.c2] t)) w.heap.size d X:=
 ⟨by simp [go_sem],by simp [go_sem],by simp [go_sem],fun o=>by simp [go_sem],by simp⟩
theorem Db10.zero (w:World) (t:TypeId):Db10 (w.alloc (.cells #[.int .i64 0,.slice none 0 0,.slice none 0 0] t)) w.heap.size zD10 zDx:=Db10.start w zD10 zDx t
theorem Db10.set (h:Db10 W p d X) (e:Dd) (Y:Dx):Db10 (((W.setCell ⟨p,0,none⟩ (.int .i64 e.vn)).setCell ⟨p,1,none⟩ (.slice Y.A e.l.length Y.c)).setCell ⟨p,2,none⟩ (.slice Y.A2 e.F.length Y.c2)) p e Y:=by
 obtain ⟨c0,c1,c2,fr,lt⟩:=h
 exact ⟨by simp [go_sem,c0],by simp [go_sem,c1],by simp [go_sem,c2],fun o=>by simp [go_sem,fr o],by simp [lt]⟩
theorem Db10.all (h:Db10 W p d X):(W.cell? ⟨p,0,none⟩=some (.int .i64 d.vn)∧W.cell? ⟨p,1,none⟩=some (.slice X.A d.l.length X.c)∧W.cell? ⟨p,2,none⟩=some (.slice X.A2 d.F.length X.c2)∧p<W.heap.size)∧W.frozen? ⟨p,0,none⟩=false∧W.frozen? ⟨p,1,none⟩=false∧W.frozen? ⟨p,2,none⟩=false:=⟨⟨h.c0,h.c1,h.c2,h.lt⟩,h.fr 0,h.fr 1,h.fr 2⟩
end
/-- A directory in a box of the call's own. -/
structure DAt (w:World) (p:Nat) (d:Dd) (X:Dx) (W:World):Prop where
 db:Db10 W p d X
 dr:DR W W.heap.size d X
 off:DOff d X p
 bel:Below w.heap.size w W
 old:w.heap.size≤p
section
variable {w W W' : World} {p:Nat} {d:Dd} {X:Dx}
theorem DAt.start {w:World} {d:Dd} {X:Dx} (t:TypeId) (h:DR w w.heap.size d X):DAt w w.heap.size d X (w.alloc (.cells #[.int .i64 d.vn,.slice X.A d.l.length X.c,.slice X.A2 d.F.length X.c2] t)):=
 ⟨Db10.start w d X t,h.alloc _,h.offs (Nat.le_refl _),(Below.refl _ _).alloc (Nat.le_refl _) _,Nat.le_refl _⟩
theorem DAt.below (h:DAt w p d X W) (hb:Below W.heap.size W W'):DAt w p d X W':=⟨h.db.up hb,h.dr.up hb,h.off,h.bel.trans (hb.mono h.bel.size),h.old⟩
theorem DAt.alloc (h:DAt w p d X W) (o:Obj):DAt w p d X (W.alloc o):=h.below ((Below.refl _ _).alloc (Nat.le_refl _) o)
theorem DAt.drew (h:DAt w p d X W):DAt w p d X W.drew:=h.below (Below.refl _ _).drew
theorem DAt.other (h:DAt w p d X W) {a:Addr} (hne:a.block≠p) (ho:DOff d X a.block) (ha:w.heap.size≤a.block) (v:Value):DAt w p d X (W.setCell a v):=
 ⟨h.db.other hne v,(h.dr.offp ho v).more (by simp),h.off,h.bel.setCell ha v,h.old⟩
/-- The cells of the box. -/
abbrev K3 (p:Nat) (d:Dd) (X:Dx) (W:World):Prop:=W.cell? ⟨p,0,none⟩=some (.int .i64 d.vn)∧W.cell? ⟨p,1,none⟩=some (.slice X.A d.l.length X.c)∧W.cell? ⟨p,2,none⟩=some (.slice X.A2 d.F.length X.c2)
theorem DAt.k (h:DAt w p d X W):K3 p d X W:=⟨h.db.c0,h.db.c1,h.db.c2⟩
end
end Go.Proofs.YtncgbldcjfbknaaGreat
/- Plain: slots and arenas in memory. -/
namespace Go.Proofs.YtncgbldcjfbknaaGreat
open Go.RowKit
set_option linter.unusedVariables false
/-- A slot's owner and shard. -/
structure So where
 ow:Int
 sh:Sh
/-- .. and where the shard's lists lie. -/
structure Sl where
 ow:Int
 sh:Sh
 sx:Sx
def Sl.so (s:Sl):So:=⟨s.ow,s.sh⟩
/-- The cells of a slot. -/
def Sl.l (s:Sl):List Value:=[.int .i64 s.ow,.bool s.sh.lv,.int .i64 s.sh.lo,.int .i64 s.sh.hi,.slice s.sx.A s.sh.cs.length s.sx.c,.int .i64 s.sh.hd,.int .i64 s.sh.sz,.slice s.sx.A2 s.sh.l.length s.sx.c2,.slice s.sx.A3 s.sh.h.length s.sx.c3]
/-- The slot as a value. -/
abbrev Sl.v (s:Sl):Value:=.agg #[.int .i64 s.ow,.bool s.sh.lv,.int .i64 s.sh.lo,.int .i64 s.sh.hi,.slice s.sx.A s.sh.cs.length s.sx.c,.int .i64 s.sh.hd,.int .i64 s.sh.sz,.slice s.sx.A2 s.sh.l.length s.sx.c2,.slice s.sx.A3 s.sh.h.length s.sx.c3]
theorem Sl.l_len (s:Sl):s.l.length=9:=rfl
theorem Sl.l_one (s:Sl):∀ u∈s.l,u.oneCell' = true:=by
 intro u hu
 simp only [Sl.l,List.mem_cons,List.not_mem_nil,or_false] at hu
 rcases hu with rfl | rfl | rfl | rfl | rfl | rfl | rfl | rfl | rfl <;> rfl
def qcs (l:List Sl):List Value:=l.flatMap Sl.l
theorem qcs_cons (d:Sl) (l:List Sl):qcs (d::l)=d.l++qcs l:=rfl
theorem qcs_len (l:List Sl):(qcs l).length=l.length*9:=by
 induction l with
 | nil=>rfl
 | cons d l ih=>rw [qcs_cons,List.length_append,ih,Sl.l_len];simp;omega
theorem qcs_drop (l:List Sl) (k:Nat):(qcs l).drop (k*9)=qcs (l.drop k):=by
 induction k generalizing l with
 | zero=>simp
 | succ k ih=>
  cases l with
  | nil=>simp [qcs]
  | cons d l=>
   rw [qcs_cons,List.drop_succ_cons,←ih,show (k+1)*9=d.l.length+k*9 by rw [Sl.l_len];omega,List.drop_append,List.drop_eq_nil_of_le (by omega)]
   simp
theorem qcs_at (l:List Sl) (k j:Nat) (hk:k<l.length) (hj:j<9):(qcs l)[k*9+j]? = l[k].l[j]?:=by
 have h:=qcs_drop l k
 have e:(qcs l)[k*9+j]? = ((qcs l).drop (k*9))[j]?:=by rw [List.getElem?_drop]
 rw [e,h,List.drop_eq_getElem_cons hk,qcs_cons,List.getElem?_append_left (by rw [Sl.l_len];exact hj)]
/-- A value that is a slice, reads as these slots and lies below B. -/
def Ql (w:World) (B:Nat) (v:Value) (l:List Sl):Prop:=∃ A c,v=.slice A l.length c∧l.length≤c∧c≤maxLen∧Rd w B 9 A l.length (qcs l)
section
variable {w w' : World} {B B' : Nat} {v:Value} {l:List Sl} {A:Option Addr} {n c:Nat}
theorem Ql.nil:Ql w B (.slice none 0 0) []:=⟨none,0,rfl,Nat.le_refl _,Nat.zero_le _,Rd.nil none⟩
theorem Ql.keep (h:Ql w B v l) (hk:∀ p:Addr,p.block<B→w'.cell? p=w.cell? p):Ql w' B v l:=by
 obtain ⟨A,c,e,hl,hm,h⟩:=h;exact ⟨A,c,e,hl,hm,h.keep hk⟩
theorem Ql.more (h:Ql w B v l) (hB:B≤B'):Ql w B' v l:=by
 obtain ⟨A,c,e,hl,hm,h⟩:=h;exact ⟨A,c,e,hl,hm,h.more hB⟩
theorem Ql.below (h:Ql w B v l) (hb:Below B w w'):Ql w' B v l:=h.keep fun _ hp=>hb.cell hp
theorem Ql.up (h:Ql w w.heap.size v l) (hb:Below w.heap.size w w'):Ql w' w'.heap.size v l:=(h.below hb).more hb.size
theorem Ql.alloc (h:Ql w B v l) (hB:B≤w.heap.size) (o:Obj):Ql (w.alloc o) B v l:=h.keep fun p hp=>World.cell?_alloc_lt w o p (by omega)
theorem Ql.setCell (h:Ql w B v l) {p:Addr} (hB:B≤p.block) (u:Value):Ql (w.setCell p u) B v l:=
 h.keep fun q hq=>World.cell?_setCell_other w p q u (fun e=>by subst e;omega)
theorem Ql.len (h:Ql w B (.slice A n c) l):n=l.length∧n≤c∧c≤maxLen:=by
 obtain ⟨A',c',e,hl,hm,h⟩:=h
 injection e with e1 e2 e3
 subst e2;subst e3
 exact ⟨rfl,hl,hm⟩
theorem Ql.rd (h:Ql w B (.slice A n c) l):Rd w B 9 A n (qcs l):=by
 obtain ⟨A',c',e,hl,hm,h⟩:=h
 injection e with e1 e2 e3
 subst e1;subst e2
 exact h
theorem Ql.form (h:Ql w B v l):∃ A c,v=.slice A l.length c∧l.length≤c∧c≤maxLen:=by
 obtain ⟨A,c,e,hl,hm,_⟩:=h;exact ⟨A,c,e,hl,hm⟩
theorem Ql.of_own {base:Nat} {e:TypeId} {n:Nat} (h:w.ownsRow base e 9 v n (qcs l)):Ql w w.heap.size v l:=by
 have hl:n=l.length:=by have:=h.1;rw [qcs_len] at this;omega
 subst hl
 rcases h.2 with ⟨hv,h0⟩ | ⟨g,cap,cur,hv,_,_,hl,hm,_⟩
 ·subst hv;exact ⟨none,0,by rw [h0],by omega,Nat.zero_le _,by rw [show l=[] from List.length_eq_zero_iff.1 h0];exact Rd.nil _⟩
 ·subst hv;exact ⟨_,cap,rfl,hl,hm,Rd.of_own h⟩
theorem Ql.offp (h:Ql w B (.slice A n c) l) {p:Addr} (ho:∀ a,A=some a→0<n→a.block≠p.block) (v:Value):Ql (w.setCell p v) B (.slice A n c) l:=by
 obtain ⟨h1,h2,h3⟩:=h.len
 subst h1
 refine ⟨A,c,rfl,h2,h3,h.rd.1,fun hn=>?_⟩
 obtain ⟨b,o,e,hb,hc⟩:=h.rd.2 hn
 have:=ho _ e hn
 exact ⟨b,o,e,hb,fun j u hu=>(World.cell?_setCell_other w p _ v (fun e'=>by have e2:=congrArg Addr.block e';simp at e2 this;omega)).trans (hc j u hu)⟩
/-- The nine cells of a slot. -/
abbrev Q9 (W:World) (b o:Nat) (s:Sl):Prop:=W.cell? ⟨b,o,none⟩=some (.int .i64 s.ow)∧W.cell? ⟨b,o+1,none⟩=some (.bool s.sh.lv)∧W.cell? ⟨b,o+2,none⟩=some (.int .i64 s.sh.lo)∧W.cell? ⟨b,o+3,none⟩=some (.int .i64 s.sh.hi)∧W.cell? ⟨b,o+4,none⟩=some (.slice s.sx.A s.sh.cs.length s.sx.c)∧W.cell? ⟨b,o+5,none⟩=some (.int .i64 s.sh.hd)∧W.cell? ⟨b,o+6,none⟩=some (.int .i64 s.sh.sz)∧W.cell? ⟨b,o+7,none⟩=some (.slice s.sx.A2 s.sh.l.length s.sx.c2)∧W.cell? ⟨b,o+8,none⟩=some (.slice s.sx.A3 s.sh.h.length s.sx.c3)
/-- The slot at place k, and where it lies. -/
theorem Ql.atg {k:Nat} (h:Ql w B (.slice A n c) l) (hk:k<l.length):∃ b o,A=some ⟨b,o,none⟩∧b<B∧Q9 w b (o+k*9) l[k]:=by
 have hn:=h.len.1
 obtain ⟨b,o,e,hb,hc⟩:=h.rd.2 (by omega)
 have g:∀ j u,j<9→l[k].l[j]? = some u→w.cell? ⟨b,o+k*9+j,none⟩=some u:=fun j u hj hu=>by
  rw [Nat.add_assoc];exact hc _ u (by rw [qcs_at l k j hk hj];exact hu)
 exact ⟨b,o,e,hb,g 0 _ (by omega) rfl,g 1 _ (by omega) rfl,g 2 _ (by omega) rfl,g 3 _ (by omega) rfl,g 4 _ (by omega) rfl,g 5 _ (by omega) rfl,g 6 _ (by omega) rfl,g 7 _ (by omega) rfl,g 8 _ (by omega) rfl⟩
end
/-- An arena. -/
structure Ar where
 sl:List So
 st:List St
 ow:Int
 cap:Int
 dl:List Msg
 dir:Dd
 ep:Int
 ck:Int
 ni:Int
def zA:Ar:=⟨[],[],0,0,[],zD10,0,0,0⟩
/-- Where its lists lie. -/
structure Ax where
 A:Option Addr
 c:Nat
 q:List Sl
 A2:Option Addr
 c2:Nat
 A3:Option Addr
 c3:Nat
 D:Dx
def zAx:Ax:=⟨none,0,[],none,0,none,0,zDx⟩
/-- The cells of its box. -/
abbrev acl (a:Ar) (Y:Ax):Array Value:=#[.slice Y.A a.sl.length Y.c,.slice Y.A2 a.st.length Y.c2,.int .i64 a.ow,.int .i64 a.cap,.slice Y.A3 a.dl.length Y.c3,.int .i64 a.dir.vn,.slice Y.D.A a.dir.l.length Y.D.c,.slice Y.D.A2 a.dir.F.length Y.D.c2,.int .i64 a.ep,.int .i64 a.ck,.int .i64 a.ni]
/-- The lists of an arena read so, and lie below B. -/
structure AR (W:World) (B:Nat) (a:Ar) (Y:Ax):Prop where
 ql:Ql W B (.slice Y.A a.sl.length Y.c) Y.q
 so:Y.q.map Sl.so=a.sl
 sr:∀ s∈Y.q,SR W B s.sh s.sx
 tl:Tl W B (.slice Y.A2 a.st.length Y.c2) a.st
 ls:Ls W B (.slice Y.A3 a.dl.length Y.c3) a.dl
 dr:DR W B a.dir Y.D
/-- They do not lie in block p. -/
structure AOff (a:Ar) (Y:Ax) (p:Nat):Prop where
 o1:OffB p a.sl.length Y.A
 os:∀ s∈Y.q,SOff s.sh s.sx p
 o2:OffB p a.st.length Y.A2
 o3:OffB p a.dl.length Y.A3
 o4:DOff a.dir Y.D p
/-- They lie from a block on. -/
structure Ax.nw (Y:Ax) (lo:Nat):Prop where
 n1:Nw lo Y.A
 ns:∀ s∈Y.q,s.sx.nw lo
 n2:Nw lo Y.A2
 n3:Nw lo Y.A3
 n4:Y.D.nw lo
section
variable {W W' : World} {B B' p lo lo' : Nat} {a:Ar} {Y:Ax}
theorem Ax.nw.off (h:Y.nw lo) (hp:p<lo):AOff a Y p:=⟨offb_nw h.n1 hp,fun s hs=>(h.ns s hs).off hp,offb_nw h.n2 hp,offb_nw h.n3 hp,h.n4.off hp⟩
theorem Ax.nw.low (h:Y.nw lo) (hp:lo'≤lo):Y.nw lo':=⟨nw_low h.n1 hp,fun s hs=>(h.ns s hs).low hp,nw_low h.n2 hp,nw_low h.n3 hp,h.n4.low hp⟩
theorem AR.below (h:AR W B a Y) (hb:Below B W W'):AR W' B a Y:=⟨h.ql.below hb,h.so,fun s hs=>(h.sr s hs).below hb,h.tl.below hb,h.ls.below hb,h.dr.below hb⟩
theorem AR.more (h:AR W B a Y) (hB:B≤B'):AR W B' a Y:=⟨h.ql.more hB,h.so,fun s hs=>(h.sr s hs).more hB,h.tl.more hB,h.ls.more hB,h.dr.more hB⟩
theorem AR.up (h:AR W W.heap.size a Y) (hb:Below W.heap.size W W'):AR W' W'.heap.size a Y:=(h.below hb).more hb.size
theorem AR.alloc (h:AR W W.heap.size a Y) (o:Obj):AR (W.alloc o) (W.alloc o).heap.size a Y:=h.up ((Below.refl _ _).alloc (Nat.le_refl _) o)
theorem AR.zero:AR W B zA zAx:=⟨Ql.nil,rfl,fun s h=>absurd h (by simp [zAx]),Tl.nil,Ls.nil,DR.zero⟩
theorem AR.len (h:AR W B a Y):Y.q.length=a.sl.length:=by rw [←h.so];simp
theorem Ql.offb {A:Option Addr} {n c:Nat} {l:List Sl} (h:Ql W B (.slice A n c) l) {p:Addr} (ho:OffB p.block n A) (v:Value):Ql (W.setCell p v) B (.slice A n c) l:=h.offp (fun a e h0=>ho h0 a e) v
theorem AR.offs (h:AR W B a Y) (hp:B≤p):AOff a Y p:=
 ⟨rd_off h.ql.rd hp,fun s hs=>⟨rd_off (h.sr s hs).ls.rd hp,rd_off (h.sr s hs).el.rd hp,rd_off (h.sr s hs).dl.rd hp⟩,rd_off h.tl.rd hp,rd_off h.ls.rd hp,h.dr.offs hp⟩
theorem Tl.offb {A:Option Addr} {n c:Nat} {l:List St} (h:Tl W B (.slice A n c) l) {p:Addr} (ho:OffB p.block n A) (v:Value):Tl (W.setCell p v) B (.slice A n c) l:=by
 obtain ⟨h1,h2,h3⟩:=h.len
 subst h1
 exact ⟨A,c,rfl,h2,h3,h.rd.offp ho v⟩
theorem AR.offp (h:AR W B a Y) {q:Addr} (ho:AOff a Y q.block) (v:Value):AR (W.setCell q v) B a Y:=
 ⟨h.ql.offb ho.o1 v,h.so,fun s hs=>(h.sr s hs).offp (ho.os s hs) v,h.tl.offb ho.o2 v,h.ls.offp ho.o3 v,h.dr.offp ho.o4 v⟩
/-- The shard of a slot, and where it lies. -/
theorem AR.atg {k:Nat} (h:AR W B a Y) (hk:k<a.sl.length):∃ (s:Sl) (b o:Nat),Y.q[k]? = some s∧s.so=a.sl[k]∧Y.A=some ⟨b,o,none⟩∧b<B∧Q9 W b (o+k*9) s∧SR W B s.sh s.sx:=by
 have hl:k<Y.q.length:=by rw [h.len];exact hk
 obtain ⟨b,o,e,hb,hq⟩:=h.ql.atg hl
 exact ⟨Y.q[k],b,o,List.getElem?_eq_getElem hl,by simp [←h.so],e,hb,hq,h.sr _ (List.getElem_mem hl)⟩
end
/-- The cells of the box p of an arena. -/
abbrev K11 (p:Nat) (a:Ar) (Y:Ax) (W:World):Prop:=
 W.cell? ⟨p,0,none⟩=some (.slice Y.A a.sl.length Y.c)∧W.cell? ⟨p,1,none⟩=some (.slice Y.A2 a.st.length Y.c2)∧W.cell? ⟨p,2,none⟩=some (.int .i64 a.ow)∧W.cell? ⟨p,3,none⟩=some (.int .i64 a.cap)∧W.cell? ⟨p,4,none⟩=some (.slice Y.A3 a.dl.length Y.c3)∧W.cell? ⟨p,5,none⟩=some (.int .i64 a.dir.vn)∧W.cell? ⟨p,6,none⟩=some (.slice Y.D.A a.dir.l.length Y.D.c)∧W.cell? ⟨p,7,none⟩=some (.slice Y.D.A2 a.dir.F.length Y.D.c2)∧W.cell? ⟨p,8,none⟩=some (.int .i64 a.ep)∧W.cell? ⟨p,9,none⟩=some (.int .i64 a.ck)∧W.cell? ⟨p,10,none⟩=some (.int .i64 a.ni)
/-- Block p holds an arena, and may be written. -/
structure QB (W:World) (p:Nat) (a:Ar) (Y:Ax):Prop where
 k:K11 p a Y W
 fr:∀ o,W.frozen? ⟨p,o,none⟩=false
 lt:p<W.heap.size
/-- The eleven stores of an arena. -/
abbrev set11 (W:World) (p:Nat) (a:Ar) (Y:Ax):World:=((((((((((W.setCell ⟨p,0,none⟩ (.slice Y.A a.sl.length Y.c)).setCell ⟨p,1,none⟩ (.slice Y.A2 a.st.length Y.c2)).setCell ⟨p,2,none⟩ (.int .i64 a.ow)).setCell ⟨p,3,none⟩ (.int .i64 a.cap)).setCell ⟨p,4,none⟩ (.slice Y.A3 a.dl.length Y.c3)).setCell ⟨p,5,none⟩ (.int .i64 a.dir.vn)).setCell ⟨p,6,none⟩ (.slice Y.D.A a.dir.l.length Y.D.c)).setCell ⟨p,7,none⟩ (.slice Y.D.A2 a.dir.F.length Y.D.c2)).setCell ⟨p,8,none⟩ (.int .i64 a.ep)).setCell ⟨p,9,none⟩ (.int .i64 a.ck)).setCell ⟨p,10,none⟩ (.int .i64 a.ni)
section
variable {W W' : World} {p g:Nat} {a:Ar} {Y:Ax}
theorem QB.keep (h:QB W p a Y) (hc:∀ o,W'.cell? ⟨p,o,none⟩=W.cell? ⟨p,o,none⟩) (hf:∀ o,W'.frozen? ⟨p,o,none⟩=W.frozen? ⟨p,o,none⟩) (hs:W.heap.size≤W'.heap.size):QB W' p a Y:=by
 obtain ⟨⟨k0,k1,k2,k3,k4,k5,k6,k7,k8,k9,k10⟩,fr,lt⟩:=h
 exact ⟨⟨(hc 0).trans k0,(hc 1).trans k1,(hc 2).trans k2,(hc 3).trans k3,(hc 4).trans k4,(hc 5).trans k5,(hc 6).trans k6,(hc 7).trans k7,(hc 8).trans k8,(hc 9).trans k9,(hc 10).trans k10⟩,fun o=>(hf o).trans (fr o),Nat.lt_of_lt_of_le lt hs⟩
theorem QB.up (h:QB W p a Y) (hb:Below W.heap.size W W'):QB W' p a Y:=h.keep (fun o=>hb.cell (p:=⟨p,o,none⟩) h.lt) (fun o=>hb.frozen (p:=⟨p,o,none⟩) h.lt) hb.size
theorem QB.alloc (h:QB W p a Y) (o:Obj):QB (W.alloc o) p a Y:=h.up ((Below.refl _ _).alloc (Nat.le_refl _) o)
theorem QB.other (h:QB W p a Y) {x:Addr} (hne:x.block≠p) (v:Value):QB (W.setCell x v) p a Y:=
 h.keep (fun o=>World.cell?_setCell_other W x ⟨p,o,none⟩ v (fun e=>hne (by rw [e]))) (fun o=>by simp [go_sem]) (by simp)
theorem QB.grown (h:QB W p a Y) (hg:W.grownBy W' (some g)) (hne:p≠g):QB W' p a Y:=h.keep (fun o=>hg.cell_far ⟨p,o,none⟩ h.lt (fun e=>by injection e with e;exact hne e)) (fun o=>hg.frozen_far ⟨p,o,none⟩ h.lt (fun e=>by injection e with e;exact hne e)) hg.size
theorem QB.start (w:World) (a:Ar) (Y:Ax) (t:TypeId):QB (w.alloc (.cells (acl a Y) t)) w.heap.size a Y:=
 ⟨⟨by simp [go_sem],by simp [go_sem],by simp [go_sem],by simp [go_sem],by simp [go_sem],by simp [go_sem],by simp [go_sem],by simp [go_sem],by simp [go_sem],by simp [go_sem],by simp [go_sem]⟩,fun o=>by simp [go_sem],by simp⟩
theorem QB.set (h:QB W p a Y) (b:Ar) (Z:Ax):QB (set11 W p b Z) p b Z:=by
 obtain ⟨⟨k0,k1,k2,k3,k4,k5,k6,k7,k8,k9,k10⟩,fr,lt⟩:=h
 exact ⟨⟨by simp [go_sem,k0],by simp [go_sem,k1],by simp [go_sem,k2],by simp [go_sem,k3],by simp [go_sem,k4],by simp [go_sem,k5],by simp [go_sem,k6],by simp [go_sem,k7],by simp [go_sem,k8],by simp [go_sem,k9],by simp [go_sem,k10]⟩,fun o=>by simp [go_sem,fr o],by simp [lt]⟩
theorem QB.free (h:QB W p a Y):W.frozen? ⟨p,0,none⟩=false∧W.frozen? ⟨p,1,none⟩=false∧W.frozen? ⟨p,2,none⟩=false∧W.frozen? ⟨p,3,none⟩=false∧W.frozen? ⟨p,4,none⟩=false∧W.frozen? ⟨p,5,none⟩=false∧W.frozen? ⟨p,6,none⟩=false∧W.frozen? ⟨p,7,none⟩=false∧W.frozen? ⟨p,8,none⟩=false∧W.frozen? ⟨p,9,none⟩=false∧W.frozen? ⟨p,10,none⟩=false:=
 ⟨h.fr 0,h.fr 1,h.fr 2,h.fr 3,h.fr 4,h.fr 5,h.fr 6,h.fr 7,h.fr 8,h.fr 9,h.fr 10⟩
theorem AR.set11 {B:Nat} {b:Ar} {Z:Ax} (h:AR W B b Z) (ho:AOff b Z p) (a:Ar) (Y:Ax):AR (set11 W p a Y) B b Z:=
 ((((((((((h.offp (q:=⟨p,0,none⟩) ho _).offp (q:=⟨p,1,none⟩) ho _).offp (q:=⟨p,2,none⟩) ho _).offp (q:=⟨p,3,none⟩) ho _).offp (q:=⟨p,4,none⟩) ho _).offp (q:=⟨p,5,none⟩) ho _).offp (q:=⟨p,6,none⟩) ho _).offp (q:=⟨p,7,none⟩) ho _).offp (q:=⟨p,8,none⟩) ho _).offp (q:=⟨p,9,none⟩) ho _).offp (q:=⟨p,10,none⟩) ho _
end
end Go.Proofs.YtncgbldcjfbknaaGreat
namespace Go.Proofs.YtncgbldcjfbknaaGreat
open Go.RowKit
set_option linter.unusedVariables false
theorem info_mgc:(Tryz.prog.info? 56).map (fun i=>(i.zero,i.size,i.bytes))=some (some (Msg.v zM),7,64):=by kernel_rfl
/-- A copy, that the call owns. -/
def MGClP (w:World) (l:List Msg) (e:Ending) (w' : World):Prop:=∃ v,e=.returned v∧w'.ownsRow w.heap.size 56 7 v l.length (lcs l)∧Below w.heap.size w w'
theorem mgclone_end {w w1:World} {l:List Msg} {v1:Value} {o:Obj} (hown:w1.ownsRow w.heap.size 56 7 v1 (0+l.length) ([]++lcs l)) (hg:(w.alloc o).grownBy w1 (Value.ownBlock (.slice (some ⟨w.heap.size,0,none⟩) 0 0))):MGClP w l (.returned v1) w1:=by
 rw [Nat.zero_add,List.nil_append] at hown
 exact ⟨v1,rfl,hown,(((Below.refl _ _).alloc (Nat.le_refl _) o)).grown hg (by simp) (fun k hk=>by simp [Value.ownBlock] at hk;omega)⟩
set_option maxHeartbeats 2000000 in
theorem mgclone_any (A:Option Addr) (n c:Nat) (l:List Msg) (w:World) (hv:Ls w w.heap.size (.slice A n c) l) (h2:n≤1000) :
  Calls Tryz.prog 104 #[.slice A n c] w (MGClP w l):=by
 obtain ⟨rfl,hm1,hm2⟩:=hv.len
 obtain ⟨i0,hi0,hz0⟩:=Option.map_eq_some_iff.1 info_mgc
 simp only [Prod.mk.injEq] at hz0
 have HI:=Lh hi0
 have HZ:=Lh hz0
 have HV:=Lh hv
 have heq:∀ W,(binOp .eql 25 (.slice A l.length c) (.slice none 0 0)).run Tryz.prog W=.ok (.bool A.isNone) W:=fun W=>Lib.run_eql_slice_nil W _ _ _ _ _ _ _ Tryz.underlying25
 have HRD:=Lh hv.rd
 clear hv hi0 hz0
 cases A with
 | none=>
  have hl:l=[]:=by
   cases l with
   | nil=>rfl
   | cons d l=>obtain ⟨b,o,e,_⟩:=HRD.out.2 (by simp);cases e
  subst hl
  have HP:=Lh (show MGClP w [] (.returned (.slice none 0 0)) w from ⟨_,rfl,World.ownsRow_nil w _ _ _,Below.refl _ _⟩)
  simp only [List.length_nil,Option.isNone_none] at heq ⊢
  go_enter Tryz.func104,Tryz.ntmps104
  go_wp2
  go_ret
  exact HP.out
 | some a=>
  simp only [Option.isNone_some] at heq
  go_enter Tryz.func104,Tryz.ntmps104
  go_wp2_with (at_builtin;refine wpList_append_rd _ rfl (.tmp 5) (.tmp 6) 25 rfl w.heap.size 56 i0 _ 7 64 Tryz.underlying25 HI.out HZ.out.1 HZ.out.2.1 HZ.out.2.2 rfl (by omega) (.slice (some ⟨w.heap.size,0,none⟩) 0 0) 0 [] rfl (World.ownsRow_made w #[] 0 (Nat.le_refl _) (Nat.zero_le _) rfl) w.heap.size (some a) l.length c (lcs l) rfl (HV.out.alloc (Nat.le_refl _) _).rd (lcs_one l) (by unfold maxLen;omega) (by omega) (by simp) ?_;intro v1 w1 hown1 hg1 hat1)
  have HP:=Lh (mgclone_end hown1 hg1)
  clear hown1 hg1 hat1
  go_wp2
  go_ret
  exact HP.out
set_option maxHeartbeats 2000000 in
theorem dremove_any (A:Option Addr) (n c:Nat) (l:List Du) (id:Int) (w:World) (hv:Dl w w.heap.size (.slice A n c) l) :
  Calls Tryz.prog 159 #[.slice A n c,.int .i64 id] w (DlE w (rmR l id) (hrmE l id)):=by
 obtain ⟨rfl,hm1,hm2⟩:=hv.len
 have HV:=Lh hv
 have HVA:=Lh (fun w1 hv=>dvalid_any A l.length c l w1 hv)
 have HFI:=Lh (fun w1 hv=>dfind_any A l.length c l id w1 hv)
 clear hv hm1 hm2
 by_cases h0:vaF l=0
 ·have h12:=(vaF_zero h0).1
  by_cases hi:ixD l id<0
  ·have hE:hrmE l id=4:=by unfold hrmE;rw [if_neg (by simpa using h0),if_pos hi]
   have HR:=Lh (show rmR l id=[] by unfold rmR;rw [hE];rfl)
   rw [h0] at HVA
   rw [hE]
   generalize ixD l id=r at*
   clear h0 hE
   go_enter Tryz.func159,Tryz.ntmps159
   go_wp2_with fail
   refine (HVA.out _ HV.out).mono ?_
   rintro e w1 ⟨rfl,hb⟩
   have HB1:=Lh hb
   clear hb
   go_wp2_with fail
   refine (HFI.out _ (HV.out.up HB1.out)).mono ?_
   rintro e w2 ⟨rfl,hb⟩
   have HB2:=Lh (HB1.out.trans (hb.mono HB1.out.size))
   clear hb
   go_wp2
   exact bodyPost_ret (v:=.tuple #[.slice none 0 0,.int .i64 4]) (by simp only [results,Tryz.results159];go_simp <;> rfl) rfl ⟨none,0,by rw [HR.out];rfl,nw_none,by rw [HR.out];exact Dl.nil,HB2.out⟩
  ·have hE:hrmE l id=0:=by unfold hrmE;rw [if_neg (by simpa using h0),if_neg hi]
   obtain ⟨_,k,hk,hke,_⟩:=hrmE_zero hE
   obtain ⟨m,hm⟩:∃ m,l.length=m+1:=⟨l.length - 1,by omega⟩
   have HR:=Lh (show rmR l id=cuF l k by unfold rmR;rw [if_pos hE,hke];rfl)
   rw [h0] at HVA
   rw [hE]
   rw [hke] at HFI
   rw [hm] at HVA HFI HV ⊢
   have HW:=Lh (fun w1 hv=>dwithout_any A m c k l w1 hv (by omega) (by omega))
   have hk0:¬((k:Int)<0):=by omega
   clear h0 hE hi hk hke hm h12
   go_enter Tryz.func159,Tryz.ntmps159
   go_wp2_with fail
   refine (HVA.out _ HV.out).mono ?_
   rintro e w1 ⟨rfl,hb⟩
   have HB1:=Lh hb
   clear hb
   go_wp2_with fail
   refine (HFI.out _ (HV.out.up HB1.out)).mono ?_
   rintro e w2 ⟨rfl,hb⟩
   have HB2:=Lh (HB1.out.trans (hb.mono HB1.out.size))
   clear hb
   go_wp2_with fail
   refine (HW.out _ (HV.out.up HB2.out)).mono ?_
   rintro e w3 ⟨A3,c3,rfl,hnw,hl,hb⟩
   have HB3:=Lh (HB2.out.trans (hb.mono HB2.out.size))
   have HN:=Lh (nw_low hnw HB2.out.size)
   have HL:=Lh hl
   clear hb hnw hl
   go_wp2
   exact bodyPost_ret (v:=.tuple #[.slice A3 (cuF l k).length c3,.int .i64 0]) (by simp only [results,Tryz.results159];go_simp <;> rfl) rfl ⟨A3,c3,by rw [HR.out],HN.out,by rw [HR.out];exact HL.out,HB3.out⟩
 ·have hE:hrmE l id=vaF l:=by unfold hrmE;rw [if_pos h0]
  have HR:=Lh (show rmR l id=[] by unfold rmR;rw [if_neg (by rw [hE];exact h0)])
  have hne:(vaF l != 0)=true:=bne_iff_ne.2 h0
  rw [hE]
  generalize vaF l=x at*
  clear h0 hE
  go_enter Tryz.func159,Tryz.ntmps159
  go_wp2_with fail
  refine (HVA.out _ HV.out).mono ?_
  rintro e w1 ⟨rfl,hb⟩
  have HB1:=Lh hb
  clear hb
  go_wp2
  exact bodyPost_ret (v:=.tuple #[.slice none 0 0,.int .i64 x]) (by simp only [results,Tryz.results159];go_simp <;> rfl) rfl ⟨none,0,by rw [HR.out];rfl,nw_none,by rw [HR.out];exact Dl.nil,HB1.out⟩
end Go.Proofs.YtncgbldcjfbknaaGreat
