/- What is proved here: parts of the proof: Dsn10 Rzd Sdir Dbt Gr Ys. -/
import Derived.Test.YtkecnihgjepfeaaGreatJ14
namespace Go.Proofs.YtkecnihgjepfeaaGreat
open Go.RowKit
set_option linter.unusedVariables false
set_option linter.unusedSimpArgs false
set_option maxHeartbeats 8000000
set_option maxRecDepth 20000
structure DnAt (w:World) (B g p:Nat) (d:Dd) (X:Dx) (oz:Option Nat) (W:World):Prop where
 ds:DsAt w B g p d X W
 zb:∀ z,oz=some z->Db10 W z zD10 zDx/\z≠g/\z≠p/\w.heap.size<=z/\DOff d X z
section
variable {w W W' : World} {B g p:Nat} {d:Dd} {X:Dx} {oz:Option Nat}
end
section
variable {w W W' : World} {B g p:Nat} {d d' : Dd} {X Y:Dx}
end
abbrev K5 (p q:Nat) (d:Dd) (X:Dx) (e:Ed) (W:World):Prop:=K3 p d X W/\W.cell? ⟨q,1,none⟩=some (.int .i64 e.fr)/\W.cell? ⟨q,2,none⟩=some (.int .i64 e.to)
structure Rz (w:World) (p q r y:Nat) (d:Dd) (X:Dx) (e:Ed) (L:List Sp) (F:List Int) (Y:Dx) (W:World):Prop where
 ab:Ab w p q r d X e W
 xb:Db10 W y ⟨d.vn+1,L,F⟩ Y
 ol:W.ownsRow (r+1) 113 3 (.slice Y.A L.length Y.c) L.length (scs L)
 of:W.ownsRow (r+1) 3 1 (.slice Y.A2 F.length Y.c2) F.length (ics F)
 d1:∀ k,(Value.slice Y.A L.length Y.c).ownBlock=some k->(Value.slice Y.A2 F.length Y.c2).ownBlock≠some k
 d2:∀ k,(Value.slice Y.A L.length Y.c).ownBlock=some k->k≠y
 d3:∀ k,(Value.slice Y.A2 F.length Y.c2).ownBlock=some k->k≠y
 ry:r<y
section
variable {w W W' : World} {p q r y:Nat} {d:Dd} {X Y:Dx} {e:Ed} {L:List Sp} {F:List Int} {A2:Option Addr} {c2:Nat}
end
section
variable {w W W' : World} {p q r y:Nat} {d:Dd} {X Y:Dx} {e:Ed} {L L' : List Sp} {F:List Int} {A:Option Addr} {c:Nat} {ob:Option Nat}
end
def s12 (M:Sp) (e:Ed):List Sp:=[⟨M.lo,e.md,e.fr⟩,⟨e.md+1,M.hi,e.to⟩]
structure Rs (w:World) (p q r y u:Nat) (d:Dd) (X:Dx) (e:Ed) (F:List Int) (Y:Dx) (i:Nat) (M:Sp) (oA:Option Value) (oB:Option Nat) (W:World):Prop where
 rz:Rz w p q r y d X e [] F Y W
 u0:W.cell? ⟨u,0,none⟩=some (.int .i64 M.lo)
 u1:W.cell? ⟨u,1,none⟩=some (.int .i64 M.hi)
 ul:u<W.heap.size
 yu:y<u
 fa:∀ v,oA=some v->W.ownsRow (r+1) 113 3 v i (scs (d.l.take i))/\∀ k,v.ownBlock=some k->u<k/\(Value.slice Y.A2 F.length Y.c2).ownBlock≠some k
 fb:∀ b,oB=some b->Rd W W.heap.size 3 (some ⟨b,0,none⟩) 2 (scs (s12 M e))
abbrev K9 (p q u:Nat) (d:Dd) (X:Dx) (e:Ed) (M:Sp) (W:World):Prop:=(W.cell? ⟨p,0,none⟩=some (.int .i64 d.vn)/\W.cell? ⟨p,1,none⟩=some (.slice X.A d.l.length X.c)/\W.cell? ⟨p,2,none⟩=some (.slice X.A2 d.F.length X.c2))/\W.cell? ⟨q,1,none⟩=some (.int .i64 e.fr)/\W.cell? ⟨q,2,none⟩=some (.int .i64 e.to)/\W.cell? ⟨q,3,none⟩=some (.int .i64 e.md)/\W.cell? ⟨u,0,none⟩=some (.int .i64 M.lo)/\W.cell? ⟨u,1,none⟩=some (.int .i64 M.hi)
section
variable {w W W' : World} {p q r y u i:Nat} {d:Dd} {X Y:Dx} {e:Ed} {F:List Int} {M:Sp} {oA:Option Value} {oB:Option Nat}
end
def s1m (M N:Sp) (e:Ed):List Sp:=[⟨M.lo,N.hi,e.to⟩]
structure Rm (w:World) (p q r y:Nat) (d:Dd) (X:Dx) (e:Ed) (F:List Int) (Y:Dx) (i:Nat) (M N:Sp) (oA:Option Value) (oB:Option Nat) (W:World):Prop where
 rz:Rz w p q r y d X e [] F Y W
 fa:∀ v,oA=some v->W.ownsRow (r+1) 113 3 v i (scs (d.l.take i))/\∀ k,v.ownBlock=some k->y<k/\(Value.slice Y.A2 F.length Y.c2).ownBlock≠some k
 fb:∀ b,oB=some b->Rd W W.heap.size 3 (some ⟨b,0,none⟩) 1 (scs (s1m M N e))
section
variable {w W W' : World} {p q r y i b o1 o2:Nat} {d:Dd} {X Y:Dx} {e:Ed} {F:List Int} {M N:Sp} {oA:Option Value} {oB:Option Nat}
end
def SrDir (B g:Nat) (w:World) (e:Ending) (w' : World):Prop:=∃ (D:Dd) (X:Dx),e=.returned (dv D X)/\vaD D=0/\DR w' w'.heap.size D X/\X.nw w.heap.size/\SrcAt w' B g/\w.grownBy w' (some g)
structure DgAt (w:World) (B g r p:Nat) (d:Dd) (X:Dx) (W:World):Prop where
 src:SrcAt W B g
 db:Db10 W p d X
 dr:DR W W.heap.size d X
 op:DOff d X p
 nw:X.nw (r+1)
 ne:g<w.heap.size/\w.heap.size<=r/\r<p
 rb:Db10 W r zD10 zDx
 gr:w.grownBy W (some g)
section
variable {w W W' : World} {B g r p:Nat} {d:Dd} {X:Dx}
end
structure DgN (w:World) (B g r p:Nat) (d:Dd) (X:Dx) (oz:Option Nat) (W:World):Prop where
 ds:DgAt w B g r p d X W
 zb:∀ z,oz=some z->Db10 W z zD10 zDx/\z≠g/\z≠p/\w.heap.size<=z/\DOff d X z/\z≠r
section
variable {w W W' : World} {B g r p:Nat} {d:Dd} {X:Dx} {oz:Option Nat}
end
section
variable {w W W' : World} {B g r p:Nat} {d d' : Dd} {X Y:Dx}
end
structure Rb (W:World) (q:Nat) (cs:List Value):Prop where
 c:∀ (j:Nat) (u:Value),cs[j]? = some u->W.cell? ⟨q,j,none⟩=some u
 f:∀ o,W.frozen? ⟨q,o,none⟩=false
 lt:q<W.heap.size
section
variable {W W' : World} {q g:Nat} {cs:List Value}
theorem Rb.up (h:Rb W q cs) (hb:Below W.heap.size W W'):Rb W' q cs:=⟨fun j u hu=>(hb.cell (p:=⟨q,j,none⟩) h.lt).trans (h.c j u hu),fun o=>(hb.frozen (p:=⟨q,o,none⟩) h.lt).trans (h.f o),Nat.lt_of_lt_of_le h.lt hb.size⟩
theorem Rb.grown (h:Rb W q cs) (hg:W.grownBy W' (some g)) (hne:q≠g):Rb W' q cs:=
 ⟨fun j u hu=>(hg.cell_far ⟨q,j,none⟩ h.lt (fun e=>by injection e with e;exact hne e)).trans (h.c j u hu),fun o=>(hg.frozen_far ⟨q,o,none⟩ h.lt (fun e=>by injection e with e;exact hne e)).trans (h.f o),Nat.lt_of_lt_of_le h.lt hg.size⟩
theorem Rb.other (h:Rb W q cs) {a:Addr} (hne:a.block≠q) (v:Value):Rb (W.setCell a v) q cs:=
 ⟨fun j u hu=>(World.cell?_setCell_other W a ⟨q,j,none⟩ v (fun e=>hne (by rw [e]))).trans (h.c j u hu),fun o=>by rw [World.frozen?_setCell];exact h.f o,by simpa using h.lt⟩
theorem Rb.set (h:Rb W q cs) {j:Nat} (hj:j<cs.length) (v:Value):Rb (W.setCell ⟨q,j,none⟩ v) q (cs.set j v):=by
 refine ⟨fun i u hu=>?_,fun o=>by rw [World.frozen?_setCell];exact h.f o,by simpa using h.lt⟩
 by_cases e:i=j
 ·subst e
  rw [List.getElem?_set_self hj] at hu
  injection hu with hu
  subst hu
  exact World.cell?_setCell_same' W _ _ (by rw [h.c i _ (List.getElem?_eq_getElem hj)];rfl)
 ·rw [List.getElem?_set_ne (fun e'=>e e'.symm)] at hu
  exact (World.cell?_setCell_other W _ _ _ (fun e'=>by injection e' with _ e2;exact e e2.symm)).trans (h.c i u hu)
theorem Rb.of_own {base size n cap:Nat} {e:TypeId} (h:W.ownsRow base e size (.slice (some ⟨q,0,none⟩) n cap) n cs):Rb W q cs:=
 ⟨fun j u hu=>by have:=h.cells (g:=q) rfl j u hu;rw [add_mk,Nat.zero_add] at this;exact this,fun o=>h.frozenAt o,(h.lt q rfl).2⟩
theorem Rb.fl {F:List Int} {c:Nat} (h:Rb W q (ics F)) (hc:F.length<=c) (hm:c<=maxLen):Fl W W.heap.size (.slice (some ⟨q,0,none⟩) F.length c) F:=
 ⟨_,c,rfl,hc,hm,by rw [ics_len],fun _=>⟨q,0,rfl,h.lt,fun j u hu=>by rw [Nat.zero_add];exact h.c j u hu⟩⟩
end
theorem own_rb {W:World} {base size n:Nat} {e:TypeId} {v:Value} {cs:List Value} (ho:W.ownsRow base e size v n cs) (h0:0<n):∃ q cap,v=.slice (some ⟨q,0,none⟩) n cap/\base<=q/\n<=cap/\cap<=maxLen/\Rb W q cs:=by
 rcases ho.2 with ⟨_,h⟩ | ⟨q,cap,cur,hv,hq,_,hl,hm,_⟩
 ·omega
 ·subst hv
  exact ⟨q,cap,rfl,hq,hl,hm,Rb.of_own ho⟩
structure Be10 (w:World) (g p q1 c1:Nat) (d:Dd) (A2:Option Addr) (c2:Nat) (W:World):Prop where
 src:SrcAt W w.heap.size g
 db:Db10 W p d ⟨some ⟨q1,0,none⟩,c1,A2,c2⟩
 r1:Rb W q1 (scs d.l)
 fl:Fl W W.heap.size (.slice A2 d.F.length c2) d.F
 bel:Below w.heap.size w W
 ord:w.heap.size<=g/\g<p/\p<q1
 cap:d.l.length<=c1/\c1<=maxLen
 off:∀ a,A2=some a->0<d.F.length->a.block≠p
structure Bf10 (w:World) (g p q1 c1 q2 c2:Nat) (d:Dd) (W:World):Prop where
 src:SrcAt W w.heap.size g
 db:Db10 W p d ⟨some ⟨q1,0,none⟩,c1,some ⟨q2,0,none⟩,c2⟩
 r1:Rb W q1 (scs d.l)
 r2:Rb W q2 (ics d.F)
 bel:Below w.heap.size w W
 ord:w.heap.size<=g/\g<p/\p<q1/\q1<q2
 cap:(d.l.length<=c1/\c1<=maxLen)/\d.F.length<=c2/\c2<=maxLen
section
variable {w W W' : World} {g p q1 c1 q2 c2:Nat} {d:Dd} {X:Dx} {A2:Option Addr}
end
end Go.Proofs.YtkecnihgjepfeaaGreat
/- Plain: rows of records in memory, whatever the records are; a box of cells that is stored whole. -/
namespace Go.Proofs.YtkecnihgjepfeaaGreat
open Go.RowKit
set_option linter.unusedVariables false
set_option linter.unusedSimpArgs false
set_option maxHeartbeats 8000000
set_option maxRecDepth 20000
structure Rw15 where
 z:Nat
 A:Option Addr
 n:Nat
 xs:List Value
def RR (W:World) (B:Nat) (rs:List Rw15):Prop:=∀ r∈rs,Rd W B r.z r.A r.n r.xs
def ROff (rs:List Rw15) (p:Nat):Prop:=∀ r∈rs,OffB p r.n r.A
def RNw (rs:List Rw15) (lo:Nat):Prop:=∀ r∈rs,Nw lo r.A
section
variable {W W' w:World} {B B' p lo lo' g:Nat} {rs ss:List Rw15}
theorem RR.nil:RR W B []:=fun r h=>absurd h (by simp)
theorem ROff.nil:ROff [] p:=fun r h=>absurd h (by simp)
theorem RR.below (h:RR W B rs) (hb:Below B W W'):RR W' B rs:=fun r hr=>(h r hr).below hb
theorem RR.more (h:RR W B rs) (hB:B<=B'):RR W B' rs:=fun r hr=>(h r hr).more hB
theorem RR.up (h:RR W W.heap.size rs) (hb:Below W.heap.size W W'):RR W' W'.heap.size rs:=(h.below hb).more hb.size
theorem RR.alloc (h:RR W W.heap.size rs) (o:Obj):RR (W.alloc o) (W.alloc o).heap.size rs:=h.up ((Below.refl _ _).alloc (nLR _) o)
theorem RR.offp (h:RR W B rs) {q:Addr} (ho:ROff rs q.block) (v:Value):RR (W.setCell q v) B rs:=fun r hr=>(h r hr).offp (ho r hr) v
theorem RR.app (h:RR W B rs) (k:RR W B ss):RR W B (rs++ss):=fun r hr=>by rcases List.mem_append.1 hr with h1 | h1;exact h r h1;exact k r h1
theorem RR.sub (h:RR W B rs) (hs:∀ r∈ss,r∈rs):RR W B ss:=fun r hr=>h r (hs r hr)
theorem ROff.app (h:ROff rs p) (k:ROff ss p):ROff (rs++ss) p:=fun r hr=>by rcases List.mem_append.1 hr with h1 | h1;exact h r h1;exact k r h1
theorem ROff.sub (h:ROff rs p) (hs:∀ r∈ss,r∈rs):ROff ss p:=fun r hr=>h r (hs r hr)
theorem RNw.app (h:RNw rs lo) (k:RNw ss lo):RNw (rs++ss) lo:=fun r hr=>by rcases List.mem_append.1 hr with h1 | h1;exact h r h1;exact k r h1
theorem RNw.sub (h:RNw rs lo) (hs:∀ r∈ss,r∈rs):RNw ss lo:=fun r hr=>h r (hs r hr)
theorem RNw.off (h:RNw rs lo) (hp:p<lo):ROff rs p:=fun r hr=>offb_nw (h r hr) hp
theorem RNw.low (h:RNw rs lo) (hl:lo'<=lo):RNw rs lo':=fun r hr=>nw_low (h r hr) hl
theorem RR.offs (h:RR W B rs) (hp:B<=p):ROff rs p:=fun r hr=>fun hn a ha=>by
 obtain ⟨b,o,e,hb,-⟩:=(h r hr).2 hn
 rw [ha] at e
 injection e with e
 subst e
 show b≠p
 omega
theorem RR.grown (h:RR W W.heap.size rs) (hg:W.grownBy W' (some g)) (ho:ROff rs g):RR W' W'.heap.size rs:=fun r hr=>
 Rd.more ⟨(h r hr).1,fun h0=>by
  obtain ⟨b,o,e,hb,hc⟩:=(h r hr).2 h0
  have hne:b≠g:=ho r hr h0 _ e
  exact ⟨b,o,e,hb,fun j u hu=>(hg.cell_far ⟨b,o+j,none⟩ hb (fun e=>by injection e with e;exact hne e)).trans (hc j u hu)⟩⟩ hg.size
theorem RR.grownN {g:Option Nat} (h:RR W W.heap.size rs) (hg:W.grownBy W' g) (ho:∀ b,g=some b->ROff rs b):RR W' W'.heap.size rs:=by
 cases g with
 | none=>exact h.up ((Below.refl _ _).grown hg (nLR _) (fun k e=>by cases e))
 | some b=>exact h.grown hg (ho b rfl)
end
def stN15 (W:World) (p:Nat):Nat->List Value->World
 | _,[]=>W
 | o,v::vs=>stN15 (W.setCell ⟨p,o,none⟩ v) p (o+1) vs
section
variable {W w:World} {B p q:Nat} {rs:List Rw15} {vs cs:List Value}
theorem stN15_size (o:Nat):(stN15 W p o vs).heap.size=W.heap.size:=by
 induction vs generalizing W o with
 | nil=>rfl
 | cons v vs ih=>rw [stN15,ih];simp
theorem stN15_below (h:Below B w W) (hp:B<=p) (o:Nat):Below B w (stN15 W p o vs):=by
 induction vs generalizing W o with
 | nil=>exact h
 | cons v vs ih=>exact ih (h.setCell (p:=⟨p,o,none⟩) hp v) (o+1)
theorem RR.stN (h:RR W B rs) (ho:ROff rs p) (o:Nat):RR (stN15 W p o vs) B rs:=by
 induction vs generalizing W o with
 | nil=>exact h
 | cons v vs ih=>exact ih (h.offp (q:=⟨p,o,none⟩) ho v) (o+1)
theorem Rb.stNo (h:Rb W q cs) (hp:p≠q) (o:Nat):Rb (stN15 W p o vs) q cs:=by
 induction vs generalizing W o with
 | nil=>exact h
 | cons v vs ih=>exact ih (h.other (a:=⟨p,o,none⟩) hp v) (o+1)
theorem rb_stN_at (h:Rb W p cs) (o:Nat) (ho:o+vs.length<=cs.length):Rb (stN15 W p o vs) p (cs.take o++vs++cs.drop (o+vs.length)):=by
 induction vs generalizing W o cs with
 | nil=>
  show Rb W p _
  simpa using h
 | cons v vs ih=>
  have hl:o<cs.length:=by simp at ho;omega
  have h1:=ih (h.set hl v) (o+1) (by simp at ho ⊢;omega)
  rw [stN15]
  have e:(cs.set o v).take (o+1)++vs++(cs.set o v).drop (o+1+vs.length)=cs.take o++(v::vs)++cs.drop (o+(v::vs).length):=by
   have e1:(cs.set o v).take (o+1)=cs.take o++[v]:=by
    rw [List.take_set,List.take_add_one,List.getElem?_eq_getElem hl,List.set_append_right _ _ (by simp;omega)]
    simp [Nat.min_eq_left (Nat.le_of_lt hl)]
   have e2:(cs.set o v).drop (o+1+vs.length)=cs.drop (o+(v::vs).length):=by
    rw [List.drop_set_of_lt (by omega)]
    simp [Nat.add_comm,Nat.add_left_comm]
   rw [e1,e2]
   simp
  rw [e] at h1
  exact h1
theorem Rb.stN (h:Rb W p cs) (hl:vs.length=cs.length):Rb (stN15 W p 0 vs) p vs:=by
 have h1:=rb_stN_at (vs:=vs) h 0 (by omega)
 simpa [hl] using h1
theorem Rb.start (W:World) (cs:List Value) (t:TypeId):Rb (W.alloc (.cells cs.toArray t)) W.heap.size cs:=
 ⟨fun j u hu=>by simp [go_sem,hu],fun o=>by simp [go_sem],by simp⟩
end
theorem stN15_set (W:World) (p:Nat) (vs:List Value) (o:Nat):stN15 W p o vs=W.setCells p o vs:=by
 induction vs generalizing W o with
 | nil=>rfl
 | cons v vs ih=>exact ih _ _
theorem Rb.range {W:World} {q:Nat} {cs:List Value} (h:Rb W q cs):W.rangeAt q 0 cs:=fun j v hv=>by rw [Nat.zero_add];exact h.c j v hv
theorem Rb.there {W:World} {q:Nat} {cs:List Value} (h:Rb W q cs):W.there q 0 cs.length:=fun j hj=>by
 rw [Nat.zero_add]
 exact ⟨by rw [h.c j _ (List.getElem?_eq_getElem hj)];rfl,h.f j⟩
theorem wpList_store_rb {P:Program} {ops:Array Oper} {rest:List Oper} {op:Oper} {a:Act} {W:World} {Q:Exit->Act->World->Prop} (hgd:op.guard=none) (ty:TypeId) (x y:Operand) (ho:op.op=.store ty x y) (b:Nat) (vs cs:List Value) (hx:a.eval x=.pointer (some ⟨b,0,none⟩)) (hy:a.eval y=.agg cs.toArray) (hr:Rb W b vs) (hl:vs.length=cs.length) (hi:(P.info? ty).map (·.size)=some cs.length) (h1:cs.toArray.all (·.oneCell')=true) (h:∀ W',W' = stN15 W b 0 cs->Rb W' b cs->wpList P ops Q rest (a.put op.dst undef) W'):wpList P ops Q (op::rest) a W:=by
 refine wpList_store_mid hgd ty x y ho b 0 cs.toArray hx hy ?_ ?_ h1 ?_
 ·have:=hr.there
  rw [hl] at this
  simpa using this
 ·simpa using hi
 ·have e:W.setCells b 0 cs.toArray.toList=stN15 W b 0 cs:=by rw [stN15_set]
  rw [e]
  exact h _ rfl (hr.stN hl.symm)
end Go.Proofs.YtkecnihgjepfeaaGreat
namespace Go.Proofs.YtkecnihgjepfeaaGreat
open Go.RowKit
set_option linter.unusedVariables false
set_option linter.unusedSimpArgs false
set_option maxHeartbeats 8000000
set_option maxRecDepth 20000
structure St where
 sq:Int
 ep:Int
 rd:Int
 ls:Int
deriving DecidableEq
abbrev zSt:St:=⟨0,0,0,0⟩
def tg (l:List St) (k:Nat):St:=l.getD k zSt
theorem tg_get {l:List St} {k:Nat} (h:k<l.length):tg l k=l[k]:=by simp [tg,List.getD,h]
def St.l (d:St):List Value:=[.int .i64 d.sq,.int .i64 d.ep,.int .i64 d.rd,.int .i64 d.ls]
abbrev St.v (d:St):Value:=.agg #[.int .i64 d.sq,.int .i64 d.ep,.int .i64 d.rd,.int .i64 d.ls]
theorem St.l_len (d:St):d.l.length=4:=rfl
theorem St.l_one (d:St):∀ u∈d.l,u.oneCell' = true:=by
 intro u hu
 simp only [St.l,List.mem_cons,List.not_mem_nil,or_false] at hu
 rcases hu with rfl | rfl | rfl | rfl <;> rfl
def tcs (l:List St):List Value:=l.flatMap St.l
theorem tcs_cons (d:St) (l:List St):tcs (d::l)=d.l++tcs l:=rfl
theorem tcs_app (l m:List St):tcs (l++m)=tcs l++tcs m:=by simp [tcs]
theorem tcs_len (l:List St):(tcs l).length=l.length*4:=by
 induction l with
 | nil=>rfl
 | cons d l ih=>rw [tcs_cons,List.length_append,ih,St.l_len];simp;omega
theorem tcs_drop (l:List St) (k:Nat):(tcs l).drop (k*4)=tcs (l.drop k):=by
 induction k generalizing l with
 | zero=>simp
 | succ k ih=>
  cases l with
  | nil=>simp [tcs]
  | cons d l=>
   rw [tcs_cons,List.drop_succ_cons,<-ih,show (k+1)*4=d.l.length+k*4 by rw [St.l_len];omega,List.drop_append,List.drop_eq_nil_of_le (by omega)]
   simp
theorem tcs_at (l:List St) (k j:Nat) (hk:k<l.length) (hj:j<4):(tcs l)[k*4+j]? = l[k].l[j]?:=by
 have h:=tcs_drop l k
 have e:(tcs l)[k*4+j]? = ((tcs l).drop (k*4))[j]?:=by rw [List.getElem?_drop]
 rw [e,h,List.drop_eq_getElem_cons hk,tcs_cons,List.getElem?_append_left (by rw [St.l_len];exact hj)]
theorem tcs_one (l:List St):∀ u∈tcs l,u.oneCell' = true:=by
 intro u hu
 obtain ⟨M,_,h⟩:=List.mem_flatMap.1 hu
 exact M.l_one u h
theorem tcs_one1 (d:St):tcs [d]=d.l:=by simp [tcs]
def Tl (w:World) (B:Nat) (v:Value) (l:List St):Prop:=∃ A c,v=.slice A l.length c/\l.length<=c/\c<=maxLen/\Rd w B 4 A l.length (tcs l)
section
variable {w w' : World} {B B' : Nat} {v:Value} {l:List St} {A:Option Addr} {n c:Nat}
theorem Tl.nil:Tl w B (.slice none 0 0) []:=⟨none,0,rfl,nLR _,Nat.zero_le _,Rd.nil none⟩
theorem Tl.keep (h:Tl w B v l) (hk:∀ p:Addr,p.block<B->w'.cell? p=w.cell? p):Tl w' B v l:=by
 obtain ⟨A,c,e,hl,hm,h⟩:=h;exact ⟨A,c,e,hl,hm,h.keep hk⟩
theorem Tl.more (h:Tl w B v l) (hB:B<=B'):Tl w B' v l:=by
 obtain ⟨A,c,e,hl,hm,h⟩:=h;exact ⟨A,c,e,hl,hm,h.more hB⟩
theorem Tl.below (h:Tl w B v l) (hb:Below B w w'):Tl w' B v l:=h.keep fun _ hp=>hb.cell hp
theorem Tl.up (h:Tl w w.heap.size v l) (hb:Below w.heap.size w w'):Tl w' w'.heap.size v l:=(h.below hb).more hb.size
theorem Tl.alloc (h:Tl w B v l) (hB:B<=w.heap.size) (o:Obj):Tl (w.alloc o) B v l:=h.keep fun p hp=>World.cell?_alloc_lt w o p (by omega)
theorem Tl.len (h:Tl w B (.slice A n c) l):n=l.length/\n<=c/\c<=maxLen:=by
 obtain ⟨A',c',e,hl,hm,h⟩:=h
 injection e with e1 e2 e3
 subst e2;subst e3
 exact ⟨rfl,hl,hm⟩
theorem Tl.rd (h:Tl w B (.slice A n c) l):Rd w B 4 A n (tcs l):=by
 obtain ⟨A',c',e,hl,hm,h⟩:=h
 injection e with e1 e2 e3
 subst e1;subst e2
 exact h
theorem Tl.of_own {base:Nat} {e:TypeId} {n:Nat} (h:w.ownsRow base e 4 v n (tcs l)):Tl w w.heap.size v l:=by
 have hl:n=l.length:=by have:=h.1;rw [tcs_len] at this;omega
 subst hl
 rcases h.2 with ⟨hv,h0⟩ | ⟨g,cap,cur,hv,_,_,hl,hm,_⟩
 ·subst hv;exact ⟨none,0,by rw [h0],by omega,Nat.zero_le _,by rw [show l=[] from List.length_eq_zero_iff.1 h0];exact Rd.nil _⟩
 ·subst hv;exact ⟨_,cap,rfl,hl,hm,Rd.of_own h⟩
theorem Tl.offp (h:Tl w B (.slice A n c) l) {p:Addr} (ho:∀ a,A=some a->0<n->a.block≠p.block) (v:Value):Tl (w.setCell p v) B (.slice A n c) l:=by
 obtain ⟨h1,h2,h3⟩:=h.len
 subst h1
 refine ⟨A,c,rfl,h2,h3,h.rd.1,fun hn=>?_⟩
 obtain ⟨b,o,e,hb,hc⟩:=h.rd.2 hn
 have:=ho _ e hn
 exact ⟨b,o,e,hb,fun j u hu=>(World.cell?_setCell_other w p _ v (fun e'=>by have e2:=congrArg Addr.block e';simp at e2 this;omega)).trans (hc j u hu)⟩
theorem Tl.atg {k:Nat} (h:Tl w B (.slice A n c) l) (hk:k<l.length):∃ b o,A=some ⟨b,o,none⟩/\b<B/\w.cell? ⟨b,o+k*4,none⟩=some (.int .i64 (tg l k).sq)/\w.cell? ⟨b,o+k*4+1,none⟩=some (.int .i64 (tg l k).ep)/\w.cell? ⟨b,o+k*4+2,none⟩=some (.int .i64 (tg l k).rd)/\w.cell? ⟨b,o+k*4+3,none⟩=some (.int .i64 (tg l k).ls):=by
 have hn:=h.len.1
 obtain ⟨b,o,e,hb,hc⟩:=h.rd.2 (by omega)
 have g:∀ j u,j<4->l[k].l[j]? = some u->w.cell? ⟨b,o+k*4+j,none⟩=some u:=fun j u hj hu=>by
  rw [Nat.add_assoc];exact hc _ u (by rw [tcs_at l k j hk hj];exact hu)
 rw [tg_get hk]
 exact ⟨b,o,e,hb,g 0 _ (by omega) rfl,g 1 _ (by omega) rfl,g 2 _ (by omega) rfl,g 3 _ (by omega) rfl⟩
end
theorem tmod2 (n:Int):(n.tmod 2=0↔n % 2=0):=by
 rw [<-Int.dvd_iff_tmod_eq_zero,<-Int.dvd_iff_emod_eq_zero]
abbrev nbP (n:Int):Prop:=0<=n/\n<=1099511627776
def nbB (n:Int):Bool:=decide (nbP n)
theorem nbB_yes {n:Int} (h:nbP n):nbB n=true:=decide_eq_true h
theorem nbB_no {n:Int} (h:¬nbP n):nbB n=false:=decide_eq_false h
def evB (n:Int):Bool:=decide (n % 2=0)
theorem evB_yes {n:Int} (h:n % 2=0):evB n=true:=decide_eq_true h
theorem evB_no {n:Int} (h:¬n % 2=0):evB n=false:=decide_eq_false h
theorem evB_not (n:Int):(n.tmod 2 != 0) = !evB n:=by
 have:=tmod2 n
 by_cases h:n % 2=0
 ·rw [evB_yes h,this.2 h];rfl
 ·have h2:¬n.tmod 2=0:=fun g=>h (this.1 g)
  rw [evB_no h];simp [h2]
def bgE (s:St):Int:=if ¬nbP s.sq then 1 else if s.sq % 2=1 then 7 else if 1099511627774<s.sq then 6 else 0
def bgT (s:St):St:=if bgE s=0 then ⟨s.sq+1,s.ep,s.rd,s.ls⟩ else zSt
theorem bg_1 {s:St} (h:¬nbP s.sq):bgE s=1/\bgT s=zSt:=by
 have e:bgE s=1:=if_pos h
 exact ⟨e,by unfold bgT;rw [e];rfl⟩
theorem bg_7 {s:St} (h:nbP s.sq) (h1:s.sq % 2=1):bgE s=7/\bgT s=zSt:=by
 have e:bgE s=7:=by unfold bgE;rw [if_neg (fun g=>g h),if_pos h1]
 exact ⟨e,by unfold bgT;rw [e];rfl⟩
theorem bg_6 {s:St} (h:nbP s.sq) (h1:¬s.sq % 2=1) (h2:1099511627774<s.sq):bgE s=6/\bgT s=zSt:=by
 have e:bgE s=6:=by unfold bgE;rw [if_neg (fun g=>g h),if_neg h1,if_pos h2]
 exact ⟨e,by unfold bgT;rw [e];rfl⟩
theorem bg_0 {s:St} (h:nbP s.sq) (h1:¬s.sq % 2=1) (h2:¬1099511627774<s.sq):bgE s=0/\bgT s=⟨s.sq+1,s.ep,s.rd,s.ls⟩:=by
 have e:bgE s=0:=by unfold bgE;rw [if_neg (fun g=>g h),if_neg h1,if_neg h2]
 exact ⟨e,by unfold bgT;rw [if_pos e]⟩
end Go.Proofs.YtkecnihgjepfeaaGreat
