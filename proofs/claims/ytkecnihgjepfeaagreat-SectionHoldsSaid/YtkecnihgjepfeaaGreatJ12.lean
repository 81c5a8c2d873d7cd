/- What is proved here: parts of the proof: Lcp Dsp Sde Dsc Dok Dmu. -/
import Derived.Laws.CopyRow
import Derived.Laws.CopyOwn
import Derived.Deep.RegionLaw
import Derived.Test.YtkecnihgjepfeaaGreatJ11
import Derived.Laws.Slices
import Derived.Lib.Overlaps
import Derived.Laws.Externs
import Derived.ArgAppend
import Derived.Deep.CutBlock
import Derived.Deep.DeepCutAuto
import Derived.KernelRfl
namespace Go.Proofs.YtkecnihgjepfeaaGreat
open Go.RowKit
set_option linter.unusedVariables false
set_option linter.unusedSimpArgs false
set_option maxHeartbeats 8000000
set_option maxRecDepth 20000
section
variable {P:Program}
theorem run_copy_sized (w:World) (dT sT ty elem:TypeId) (size g o dLen dCap:Nat) (a:Addr) (sLen sCap:Nat) (cur:List Value) (t:TypeId) (cs:List Value)
  (hu:P.underlying dT=some (.slice elem)) (hs:(P.info? elem).map (·.size)=some size)
  (hg:w.heap[g]? = some (.cells cur.toArray t (0,0))) (hn:cs.length=Nat.min sLen dLen*size)
  (hsrc:∀ j v,cs[j]? = some v->w.cell? (a.add j)=some v) (hfit:o+cs.length<=cur.length) (h1:∀ v∈cs,v.oneCell' = true) :
  (Builtin.copy_ #[dT,sT] ty #[.slice (some ⟨g,o,none⟩) dLen dCap,.slice (some a) sLen sCap]).run P w =
   .ok (goInt (Nat.min sLen dLen)) (w.setRow g (splice cur o cs).toArray):=by
 have hl:=run_loadCells_list (P:=P) w a cs hsrc
 have hst:=run_storeCells_at P g o t cs 0 cur.toArray w hg (by simpa using hfit) h1
 cases hq:P.info? elem with
 | none=>simp [hq] at hs
 | some i=>
  have hi:i.size=size:=by simpa [hq] using hs
  have e:w.setRow g (cur.take o++cs++cur.drop (o+cs.length)).toArray=w.setRow g (splice cur o cs).toArray:=by
   unfold splice;rw [List.append_assoc]
  simp [Builtin.copy_,run_underlying hu,Builtin.lenOf,Builtin.firstCells,sizeOf,typeInfo,hq,hi,<-hn,hl,hst]
  rw [<-e]
  simp
end
abbrev Rw (W:World) (g:Nat) (t:TypeId) (cur:List Value):Prop:=W.heap[g]? = some (.cells cur.toArray t (0,0))
section
variable {W:World} {g base n cap size:Nat} {t e:TypeId} {cur xs:List Value} {v:Value}
theorem Rw.set (h:Rw W g t cur) (o:Nat) (cs:List Value):Rw (W.setRow g (splice cur o cs).toArray) g t (splice cur o cs):=setRow_heap W g _ _ t _ h
theorem Rw.cell (h:Rw W g t cur) {j:Nat} {u:Value} (hj:cur[j]? = some u):W.cell? ⟨g,j,none⟩=some u:=by
 simp [World.cell?,h,hj]
theorem Rw.own (h:Rw W g e cur) (hb:base<=g) (hl:n<=cap) (hm:cap<=maxLen) (hs:cur.length=cap*size) (ht:cur.take (n*size)=xs):W.ownsRow base e size (.slice (some ⟨g,0,none⟩) n cap) n xs:=by
 refine ⟨?_,.inr ⟨g,cap,cur.toArray,rfl,hb,h,hl,hm,by simpa using hs,by simpa using ht⟩⟩
 rw [<-ht,List.length_take,hs]
 exact Nat.min_eq_left (Nat.mul_le_mul_right _ hl)
theorem splice_len (cur:List Value) (o:Nat) (cs:List Value) (h:o+cs.length<=cur.length):(splice cur o cs).length=cur.length:=length_splice cur o cs h
theorem grown_setRow (w:World) (g:Nat) (cs:Array Value):w.grownBy (w.setRow g cs) (some g):=
 ⟨rfl,rfl,rfl,by simp [World.setRow],fun k _ hne=>setRow_other w g k cs (fun e=>hne (by rw [e]))⟩
theorem Rw.fresh (w:World) (cs:Array Value) (t:TypeId):Rw (w.alloc (.cells cs t)) w.heap.size t cs.toList:=by
 show (w.heap.push (.cells cs t))[w.heap.size]? = some (.cells cs.toList.toArray t (0,0))
 simp
section
variable {P:Program} {ops:Array Oper} {o:Oper} {a:Act} {w:World}
end
end
abbrev Ed.v (e:Ed):Value:=.agg #[.int .i64 e.kd,.int .i64 e.fr,.int .i64 e.to,.int .i64 e.md]
structure EB (W:World) (q:Nat) (e:Ed):Prop where
 c0:W.cell? ⟨q,0,none⟩=some (.int .i64 e.kd)
 c1:W.cell? ⟨q,1,none⟩=some (.int .i64 e.fr)
 c2:W.cell? ⟨q,2,none⟩=some (.int .i64 e.to)
 c3:W.cell? ⟨q,3,none⟩=some (.int .i64 e.md)
 lt:q<W.heap.size
section
variable {W W' : World} {q g:Nat} {e:Ed}
end
def DE (base:Nat) (w:World) (d:Dd) (x:Int) (e:Ending) (w' : World):Prop:=∃ X,e=.returned (.tuple #[dv d X,.int .i64 x])/\X.nw base/\DR w' w'.heap.size d X/\Below base w w'
structure Sb (w:World) (base p q r:Nat) (d:Dd) (X:Dx) (e:Ed) (W:World):Prop where
 db:Db10 W p d X
 eb:EB W q e
 rb:Db10 W r zD10 zDx
 ol:W.ownsRow base 113 3 (.slice X.A d.l.length X.c) d.l.length (scs d.l)
 of:W.ownsRow base 3 1 (.slice X.A2 d.F.length X.c2) d.F.length (ics d.F)
 dis:∀ k,(Value.slice X.A d.l.length X.c).ownBlock=some k->(Value.slice X.A2 d.F.length X.c2).ownBlock≠some k
 ll:∀ k,(Value.slice X.A d.l.length X.c).ownBlock=some k->k≠p/\k≠q/\k≠r
 lf:∀ k,(Value.slice X.A2 d.F.length X.c2).ownBlock=some k->k≠p/\k≠q/\k≠r
 pq:base<=w.heap.size/\w.heap.size<=p/\p<q/\q<r
 bel:Below base w W
section
variable {w W W' : World} {base p q r:Nat} {d:Dd} {X:Dx} {e:Ed}
theorem own_up10 {size n:Nat} {t:TypeId} {v:Value} {xs:List Value} (h:W.ownsRow base t size v n xs) (hb:Below W.heap.size W W'):W'.ownsRow base t size v n xs:=
 ⟨h.1,h.2.imp_right fun ⟨g,cap,cur,hv,hg,hh,rr⟩=>⟨g,cap,cur,hv,hg,(hb.block g (Array.getElem?_eq_some_iff.1 hh).1).trans hh,rr⟩⟩
theorem own_oth {size n:Nat} {t:TypeId} {v:Value} {xs:List Value} (h:W.ownsRow base t size v n xs) {a:Addr} (ha:∀ k,v.ownBlock=some k->k≠a.block) (u:Value):(W.setCell a u).ownsRow base t size v n xs:=
 ⟨h.1,h.2.imp_right fun ⟨g,cap,cur,hv,hg,hh,rr⟩=>⟨g,cap,cur,hv,hg,(Below.heap_setCell W a u g (by
  have:=ha g (by rw [hv];rfl)
  intro e;exact this e)).trans hh,rr⟩⟩
theorem own_far10 {size n g:Nat} {t:TypeId} {v:Value} {xs:List Value} (h:W.ownsRow base t size v n xs) (hg:W.grownBy W' (some g)) (hne:v.ownBlock≠some g):W'.ownsRow base t size v n xs:=
 ⟨h.1,h.2.imp_right fun ⟨k,cap,cur,hv,hk,hh,rr⟩=>⟨k,cap,cur,hv,hk,(hg.block k (Array.getElem?_eq_some_iff.1 hh).1 (by
  rw [hv] at hne
  exact hne)).trans hh,rr⟩⟩
end
structure EW (W:World) (q:Nat) (e:Ed):Prop where
 eb:EB W q e
 ef:∀ o,W.frozen? ⟨q,o,none⟩=false
section
variable {W W' : World} {q g:Nat} {e:Ed}
end
section
variable {w W W' : World} {B B' g p:Nat} {d:Dd} {X:Dx}
theorem Pl.grownO {n c:Nat} {A:Option Addr} {l:List Sp} (h:Pl W B (.slice A n c) l) (ho:∀ a,A=some a->0<n->a.block≠g) (hB:B<=W.heap.size) (hg:W.grownBy W' (some g)):Pl W' B (.slice A n c) l:=by
 obtain ⟨h1,h2,h3⟩:=h.len
 subst h1
 refine ⟨A,c,rfl,h2,h3,h.rd.1,fun hn=>?_⟩
 obtain ⟨b,o,e,hb,hc⟩:=h.rd.2 hn
 have:=ho _ e hn
 exact ⟨b,o,e,hb,fun j u hu=>(hg.cell_far ⟨b,o+j,none⟩ (by show b<_;omega) (fun e'=>by injection e' with e';exact this e')).trans (hc j u hu)⟩
theorem Fl.grownO {n c:Nat} {A:Option Addr} {l:List Int} (h:Fl W B (.slice A n c) l) (ho:∀ a,A=some a->0<n->a.block≠g) (hB:B<=W.heap.size) (hg:W.grownBy W' (some g)):Fl W' B (.slice A n c) l:=by
 obtain ⟨h1,h2,h3⟩:=h.len
 subst h1
 refine ⟨A,c,rfl,h2,h3,h.rd.1,fun hn=>?_⟩
 obtain ⟨b,o,e,hb,hc⟩:=h.rd.2 hn
 have:=ho _ e hn
 exact ⟨b,o,e,hb,fun j u hu=>(hg.cell_far ⟨b,o+j,none⟩ (by show b<_;omega) (fun e'=>by injection e' with e';exact this e')).trans (hc j u hu)⟩
theorem DR.grownO (h:DR W B d X) (ho:DOff d X g) (hB:B<=W.heap.size) (hg:W.grownBy W' (some g)):DR W' B d X:=⟨h.pl.grownO ho.o1 hB hg,h.fl.grownO ho.o2 hB hg⟩
end
structure DsAt (w:World) (B g p:Nat) (d:Dd) (X:Dx) (W:World):Prop where
 src:SrcAt W B g
 db:Db10 W p d X
 dr:DR W W.heap.size d X
 op:DOff d X p
 og:DOff d X g
 ne:p≠g/\w.heap.size<=p/\w.heap.size<=g/\B<=w.heap.size
 bel:Below w.heap.size w W
section
variable {w W W' : World} {B g p:Nat} {d:Dd} {X:Dx}
end
end Go.Proofs.YtkecnihgjepfeaaGreat
namespace Go.Proofs.YtkecnihgjepfeaaGreat
set_option linter.unusedVariables false
set_option linter.unusedSimpArgs false
set_option maxHeartbeats 8000000
set_option maxRecDepth 20000
def chN:Int->List Sp->Int->Prop
 | n,[],m=>n=m
 | n,x::l,m=>x.lo=n/\x.lo<=x.hi/\x.hi<=65535/\chN (x.hi+1) l m
structure OkL (n:Nat) (l:List Sp):Prop where
 ch:chN 0 l 65536
 ms:∀ x∈l,slotP n x.sh
 nd:(l.map (·.sh)).Nodup
end Go.Proofs.YtkecnihgjepfeaaGreat
namespace Go.Proofs.YtkecnihgjepfeaaGreat
open Go.RowKit
set_option linter.unusedVariables false
set_option linter.unusedSimpArgs false
set_option maxHeartbeats 8000000
set_option maxRecDepth 20000
def MuP (n:Nat) (w:World) (e:Ending) (w' : World):Prop:=e=.returned (.tuple #[.int .u64 0,.int .u64 (n:Int)])/\w=w'
set_option maxRecDepth 200000 in
theorem mul64_one (n:Nat) (hn:n<=6) (w:World):Calls Tryz.prog 99 #[.int .u64 1,.int .u64 (n:Int)] w (MuP n w):=by
 have hc:n=0\/n=1\/n=2\/n=3\/n=4\/n=5\/n=6:=by omega
 clear hn
 rcases hc with rfl | rfl | rfl | rfl | rfl | rfl | rfl
 all_goals
  go_enter Tryz.func99,Tryz.ntmps99
  go_wp2
  go_ret2
  exact ⟨rfl,rfl⟩
theorem mul_one (n:Nat) (hn:n<=6) (w:World):Calls Tryz.prog 70 #[.int .u64 1,.int .u64 (n:Int)] w (MuP n w):=by
 have HL:=Lh (mul64_one n hn)
 have h0:(0:Int)<=n:=by omega
 have h1:(n:Int)<=6:=by omega
 clear hn
 go_enter Tryz.func70,Tryz.ntmps70
 go_wp2_with fail
 refine (HL.out _).mono ?_
 rintro e w1 ⟨rfl,rfl⟩
 go_wp2
 go_ret2
 exact ⟨rfl,rfl⟩
end Go.Proofs.YtkecnihgjepfeaaGreat
