/- What is proved here: parts of the proof: Jtv Jtw Jnx Ud Ug Uh. -/
import Derived.Test.YtkecnihgjepfeaaGreatJ36
/- Plain: a row of lockers that grows; an arena and a locker in new boxes behind a step. -/
namespace Go.Proofs.YtkecnihgjepfeaaGreat
open Go.RowKit
set_option linter.unusedVariables false
set_option linter.unusedSimpArgs false
set_option maxHeartbeats 8000000
set_option maxRecDepth 20000
structure Jb1 (w:World) (g pa:Nat) (a:Ar) (Y:Ax) (A:Option Addr) (c:Nat) (Q:List Lc) (W:World):Prop where
 src:SrcAt W w.heap.size g
 qb:QB W pa a Y
 ar:AR W W.heap.size a Y
 ao:AOff a Y pa/\AOff a Y g
 own:W.ownsRow (pa+1) 45 5 (.slice A Q.length c) Q.length (kcs Q)
 lx:∀ t∈Q,Fl W W.heap.size (.slice t.A t.l.cs.length t.c) t.l.cs/\OffB pa t.l.cs.length t.A/\OffB g t.l.cs.length t.A
 x1:∀ b,(Value.slice A Q.length c).ownBlock=some b->(∀ t∈Q,OffB b t.l.cs.length t.A)/\AOff a Y b
 ne:w.heap.size<=g/\g<pa
 bel:Below w.heap.size w W
section
variable {w W W' : World} {g pa c:Nat} {a:Ar} {Y:Ax} {A:Option Addr} {Q:List Lc}
end
theorem okc_new {N:Nat} {cs:List Int} (h:OkC N cs) (h1:1<=cs.length) (hN:N<=6):nwE13 cs=0/\nwL13 cs=⟨cs,0,0,0,0⟩:=by
 have h3:=h.l3
 have ha:ascB (-1) cs=true:=by
  match cs,h,h1,h3 with
  | [x],h,_,_=>
   have r0:=h.rng 0 (by simp)
   simp [ig] at r0
   simp [ascB];omega
  | [x,y],h,_,_=>
   have r0:=h.rng 0 (by simp)
   have r1:=h.rng 1 (by simp)
   have a0:=h.asc 0 1 (by omega) (by simp)
   simp [ig] at r0 r1 a0
   simp [ascB];omega
  | [x,y,z],h,_,_=>
   have r0:=h.rng 0 (by simp)
   have r1:=h.rng 1 (by simp)
   have r2:=h.rng 2 (by simp)
   have a0:=h.asc 0 1 (by omega) (by simp)
   have a1:=h.asc 1 2 (by omega) (by simp)
   simp [ig] at r0 r1 r2 a0 a1
   simp [ascB];omega
  | _::_::_::_::_,_,_,h3=>simp at h3
 have e:nwE13 cs=0:=by
  unfold nwE13
  rw [if_neg (by omega),if_pos ha]
 exact ⟨e,if_pos e⟩
structure Jt3 (w:World) (g pa b u v:Nat) (a:Ar) (Y:Ax) (Q:List Lc) (a' : Ar) (Z:Ax) (t:Lc) (W:World):Prop where
 j2:Jt2 w g pa b a Y Q W
 ub:QB W u a' Z
 vb:LB W v t.l t.A t.c
 ar:AR W W.heap.size a' Z
 ao:AOff a' Z pa/\AOff a' Z b/\AOff a' Z g
 lx:Lx W pa b g t
 ne:b<u/\b<v/\u≠v
section
variable {w wr W w4:World} {g pa b:Nat} {a a' : Ar} {Y Z:Ax} {Q:List Lc} {l' : Lk} {A' : Option Addr} {c' : Nat}
end
end Go.Proofs.YtkecnihgjepfeaaGreat
/- Plain: what the statements about several lockers hold from turn to turn. -/
namespace Go.Proofs.YtkecnihgjepfeaaGreat
open Go.RowKit
set_option linter.unusedVariables false
set_option linter.unusedSimpArgs false
set_option maxHeartbeats 8000000
set_option maxRecDepth 20000
structure Tv13 (n m:Nat) (a:Ar) (Q:List Lc) (T:Int):Prop where
 ql:Q.length=m
 sl:a.sl.length=n
 fw:a.Few
 iv:Iv13 n T a.own (Q.map Lc.l)
section
variable {n m k:Nat} {a:Ar} {Q:List Lc} {T T' : Int} {t:Lc} {A:Option Addr} {c:Nat}
end
structure Out13 (n m r lf:Nat) (a:Ar) (Q:List Lc):Prop where
 tv:Tv13 n m a Q ((6*r:Nat):Int)
 br:(0<lf/\((∃ P j,Pot13 n a.own (Q.map Lc.l) P j/\r+P<=150)\/(Done13 (Q.map Lc.l)/\r<=151)))\/(lf=0/\Done13 (Q.map Lc.l)/\r<=152)
 lm:lf<=m
section
variable {n m r k lf:Nat} {a:Ar} {Q:List Lc} {t:Lc} {A:Option Addr} {c:Nat}
end
end Go.Proofs.YtkecnihgjepfeaaGreat
/- Plain: an arena and a locker in new boxes behind a step, whatever else there is; two arenas and two rows of lockers. -/
namespace Go.Proofs.YtkecnihgjepfeaaGreat
open Go.RowKit
set_option linter.unusedVariables false
set_option linter.unusedSimpArgs false
set_option maxHeartbeats 8000000
set_option maxRecDepth 20000
structure Nx13 (wr:World) (u v:Nat) (a' : Ar) (Z:Ax) (l' : Lk) (A' : Option Addr) (c' : Nat) (W:World):Prop where
 bel:Below wr.heap.size wr W
 ub:QB W u a' Z
 vb:LB W v l' A' c'
 ar:AR W W.heap.size a' Z
 fl:Fl W W.heap.size (.slice A' l'.cs.length c') l'.cs
 ne:wr.heap.size<=u/\wr.heap.size<=v/\u≠v
section
variable {wr W w4:World} {a' : Ar} {Z:Ax} {l' : Lk} {A' : Option Addr} {c' : Nat}
theorem nx_1 (h1:Below wr.heap.size wr W) (hr:AR w4 w4.heap.size a' Z) (hf:Fl w4 w4.heap.size (.slice A' l'.cs.length c') l'.cs) (hb:Below W.heap.size W w4) :
  Nx13 wr w4.heap.size (w4.heap.size+1) a' Z l' A' c' ((w4.alloc (.cells #[.slice Z.A a'.sl.length Z.c,.slice Z.A2 a'.st.length Z.c2,.int .i64 a'.ow,.int .i64 a'.cap,.slice Z.A3 a'.dl.length Z.c3,.int .i64 a'.dir.vn,.slice Z.D.A a'.dir.l.length Z.D.c,.slice Z.D.A2 a'.dir.F.length Z.D.c2,.int .i64 a'.ep,.int .i64 a'.ck,.int .i64 a'.ni] 36)).alloc (.cells #[.slice A' l'.cs.length c',.int .i64 l'.ph,.int .i64 l'.hv,.int .i64 l'.tr,.int .i64 l'.wt] 45))/\Nx13 wr (w4.heap.size+1) w4.heap.size a' Z l' A' c' ((w4.alloc (.cells #[.slice A' l'.cs.length c',.int .i64 l'.ph,.int .i64 l'.hv,.int .i64 l'.tr,.int .i64 l'.wt] 45)).alloc (.cells #[.slice Z.A a'.sl.length Z.c,.slice Z.A2 a'.st.length Z.c2,.int .i64 a'.ow,.int .i64 a'.cap,.slice Z.A3 a'.dl.length Z.c3,.int .i64 a'.dir.vn,.slice Z.D.A a'.dir.l.length Z.D.c,.slice Z.D.A2 a'.dir.F.length Z.D.c2,.int .i64 a'.ep,.int .i64 a'.ck,.int .i64 a'.ni] 36)):=by
 have h4:=h1.trans (hb.mono h1.size)
 have hsz:=h4.size
 have e1:(w4.alloc (.cells #[.slice Z.A a'.sl.length Z.c,.slice Z.A2 a'.st.length Z.c2,.int .i64 a'.ow,.int .i64 a'.cap,.slice Z.A3 a'.dl.length Z.c3,.int .i64 a'.dir.vn,.slice Z.D.A a'.dir.l.length Z.D.c,.slice Z.D.A2 a'.dir.F.length Z.D.c2,.int .i64 a'.ep,.int .i64 a'.ck,.int .i64 a'.ni] 36)).heap.size=w4.heap.size+1:=by simp
 have e2:(w4.alloc (.cells #[.slice A' l'.cs.length c',.int .i64 l'.ph,.int .i64 l'.hv,.int .i64 l'.tr,.int .i64 l'.wt] 45)).heap.size=w4.heap.size+1:=by simp
 have k1:=LB.start (w4.alloc (.cells #[.slice Z.A a'.sl.length Z.c,.slice Z.A2 a'.st.length Z.c2,.int .i64 a'.ow,.int .i64 a'.cap,.slice Z.A3 a'.dl.length Z.c3,.int .i64 a'.dir.vn,.slice Z.D.A a'.dir.l.length Z.D.c,.slice Z.D.A2 a'.dir.F.length Z.D.c2,.int .i64 a'.ep,.int .i64 a'.ck,.int .i64 a'.ni] 36)) l' A' c' 45
 have k2:=QB.start (w4.alloc (.cells #[.slice A' l'.cs.length c',.int .i64 l'.ph,.int .i64 l'.hv,.int .i64 l'.tr,.int .i64 l'.wt] 45)) a' Z 36
 rw [e1] at k1
 rw [e2] at k2
 exact ⟨⟨bal (bal h4 _) _,(QB.start w4 a' Z _).alloc _,k1,(hr.alloc _).alloc _,(hf.alloc2 _).alloc2 _,by omega,by omega,by omega⟩,
  ⟨bal (bal h4 _) _,k2,(LB.start w4 l' A' c' _).alloc _,(hr.alloc _).alloc _,(hf.alloc2 _).alloc2 _,by omega,by omega,by omega⟩⟩
theorem nx_2 (ho:∀ q,wr.heap.size<=q->q<(wr.alloc (.cells #[.slice none 0 0,.slice none 0 0,.int .i64 0,.int .i64 0,.slice none 0 0,.int .i64 0,.slice none 0 0,.slice none 0 0,.int .i64 0,.int .i64 0,.int .i64 0] 36)).drew.heap.size->AOff a' Z q/\OffB q l'.cs.length A') (hr:AR w4 w4.heap.size a' Z) (hf:Fl w4 w4.heap.size (.slice A' l'.cs.length c') l'.cs) (hb:Below (wr.alloc (.cells #[.slice none 0 0,.slice none 0 0,.int .i64 0,.int .i64 0,.slice none 0 0,.int .i64 0,.slice none 0 0,.slice none 0 0,.int .i64 0,.int .i64 0,.int .i64 0] 36)).drew.heap.size (wr.alloc (.cells #[.slice none 0 0,.slice none 0 0,.int .i64 0,.int .i64 0,.slice none 0 0,.int .i64 0,.slice none 0 0,.slice none 0 0,.int .i64 0,.int .i64 0,.int .i64 0] 36)).drew w4) :
  QB w4 wr.heap.size zA zAx/\Nx13 wr wr.heap.size w4.heap.size a' Z l' A' c' ((set11 w4 wr.heap.size a' Z).alloc (.cells #[.slice A' l'.cs.length c',.int .i64 l'.ph,.int .i64 l'.hv,.int .i64 l'.tr,.int .i64 l'.wt] 45)):=by
 have h1:Below wr.heap.size wr (wr.alloc (.cells #[.slice none 0 0,.slice none 0 0,.int .i64 0,.int .i64 0,.slice none 0 0,.int .i64 0,.slice none 0 0,.slice none 0 0,.int .i64 0,.int .i64 0,.int .i64 0] 36)).drew:=((Below.refl _ _).alloc (nLR _) _).drew
 have h4:=h1.trans (hb.mono h1.size)
 have e:(wr.alloc (.cells #[.slice none 0 0,.slice none 0 0,.int .i64 0,.int .i64 0,.slice none 0 0,.int .i64 0,.slice none 0 0,.slice none 0 0,.int .i64 0,.int .i64 0,.int .i64 0] 36)).drew.heap.size=wr.heap.size+1:=by simp
 have hq:QB w4 wr.heap.size zA zAx:=((QB.start wr zA zAx _).up ((Below.refl _ _).drew)).up hb
 have hu:wr.heap.size<w4.heap.size:=hq.lt
 obtain ⟨hof,hfo⟩:=ho wr.heap.size (nLR _) (by omega)
 have k1:=LB.start (set11 w4 wr.heap.size a' Z) l' A' c' 45
 rw [set11_size] at k1
 have hr' : AR (set11 w4 wr.heap.size a' Z) (set11 w4 wr.heap.size a' Z).heap.size a' Z:=(hr.set11 hof a' Z).more (by rw [set11_size];exact nLR _)
 have hf' : Fl (set11 w4 wr.heap.size a' Z) (set11 w4 wr.heap.size a' Z).heap.size (.slice A' l'.cs.length c') l'.cs:=(hf.set11 hfo a' Z).more (by rw [set11_size];exact nLR _)
 exact ⟨hq,bal (set11_below h4 (nLR _) a' Z) _,(hq.set a' Z).alloc _,k1,hr'.alloc _,hf'.alloc2 _,nLR _,by omega,by omega⟩
theorem nx_3 (ho:∀ q,wr.heap.size<=q->q<(wr.alloc (.cells #[.slice none 0 0,.int .i64 0,.int .i64 0,.int .i64 0,.int .i64 0] 45)).drew.heap.size->AOff a' Z q/\OffB q l'.cs.length A') (hr:AR w4 w4.heap.size a' Z) (hf:Fl w4 w4.heap.size (.slice A' l'.cs.length c') l'.cs) (hb:Below (wr.alloc (.cells #[.slice none 0 0,.int .i64 0,.int .i64 0,.int .i64 0,.int .i64 0] 45)).drew.heap.size (wr.alloc (.cells #[.slice none 0 0,.int .i64 0,.int .i64 0,.int .i64 0,.int .i64 0] 45)).drew w4) :
  LB w4 wr.heap.size zK none 0/\Nx13 wr w4.heap.size wr.heap.size a' Z l' A' c' ((set5 w4 wr.heap.size l' A' c').alloc (.cells #[.slice Z.A a'.sl.length Z.c,.slice Z.A2 a'.st.length Z.c2,.int .i64 a'.ow,.int .i64 a'.cap,.slice Z.A3 a'.dl.length Z.c3,.int .i64 a'.dir.vn,.slice Z.D.A a'.dir.l.length Z.D.c,.slice Z.D.A2 a'.dir.F.length Z.D.c2,.int .i64 a'.ep,.int .i64 a'.ck,.int .i64 a'.ni] 36)):=by
 have h1:Below wr.heap.size wr (wr.alloc (.cells #[.slice none 0 0,.int .i64 0,.int .i64 0,.int .i64 0,.int .i64 0] 45)).drew:=((Below.refl _ _).alloc (nLR _) _).drew
 have h4:=h1.trans (hb.mono h1.size)
 have e:(wr.alloc (.cells #[.slice none 0 0,.int .i64 0,.int .i64 0,.int .i64 0,.int .i64 0] 45)).drew.heap.size=wr.heap.size+1:=by simp
 have hq:LB w4 wr.heap.size zK none 0:=((LB.start wr zK none 0 _).up ((Below.refl _ _).drew)).up hb
 have hu:wr.heap.size<w4.heap.size:=hq.lt
 obtain ⟨hof,hfo⟩:=ho wr.heap.size (nLR _) (by omega)
 have k1:=QB.start (set5 w4 wr.heap.size l' A' c') a' Z 36
 rw [set5_size] at k1
 have hr' : AR (set5 w4 wr.heap.size l' A' c') (set5 w4 wr.heap.size l' A' c').heap.size a' Z:=(hr.set5 hof l' A' c').more (by rw [set5_size];exact nLR _)
 have hf' : Fl (set5 w4 wr.heap.size l' A' c') (set5 w4 wr.heap.size l' A' c').heap.size (.slice A' l'.cs.length c') l'.cs:=(hf.set5 hfo l' A' c').more (by rw [set5_size];exact nLR _)
 exact ⟨hq,bal (set5_below h4 (nLR _) l' A' c') _,k1,(hq.set l' A' c').alloc _,hr'.alloc _,hf'.alloc2 _,by omega,nLR _,by omega⟩
theorem nx_both {u v:Nat} (h1:Below wr.heap.size wr W) (ho:∀ q,wr.heap.size<=q->q<W.heap.size->AOff a' Z q/\OffB q l'.cs.length A') (hr:AR w4 w4.heap.size a' Z) (hf:Fl w4 w4.heap.size (.slice A' l'.cs.length c') l'.cs) (hb:Below W.heap.size W w4) (hqu:QB w4 u zA zAx) (hqv:LB w4 v zK none 0) (hu:wr.heap.size<=u/\u<W.heap.size) (hv:wr.heap.size<=v/\v<W.heap.size) (hne:u≠v) :
  Nx13 wr u v a' Z l' A' c' (set5 (set11 w4 u a' Z) v l' A' c'):=by
 have h4:=h1.trans (hb.mono h1.size)
 obtain ⟨ou,fu⟩:=ho u hu.1 hu.2
 obtain ⟨ov,fv⟩:=ho v hv.1 hv.2
 exact ⟨set5_below (set11_below h4 hu.1 a' Z) hv.1 l' A' c',(hqu.set a' Z).set5 (fun e=>hne e.symm) l' A' c',(hqv.set11 hne a' Z).set l' A' c',((hr.set11 ou a' Z).set5 ov l' A' c').more (by rw [set5_size,set11_size];exact nLR _),((hf.set11 fu a' Z).set5 fv l' A' c').more (by rw [set5_size,set11_size];exact nLR _),hu.1,hv.1,hne⟩
theorem nx_4 (ho:∀ q,wr.heap.size<=q->q<((wr.alloc (.cells #[.slice none 0 0,.slice none 0 0,.int .i64 0,.int .i64 0,.slice none 0 0,.int .i64 0,.slice none 0 0,.slice none 0 0,.int .i64 0,.int .i64 0,.int .i64 0] 36)).alloc (.cells #[.slice none 0 0,.int .i64 0,.int .i64 0,.int .i64 0,.int .i64 0] 45)).drew.heap.size->AOff a' Z q/\OffB q l'.cs.length A') (hr:AR w4 w4.heap.size a' Z) (hf:Fl w4 w4.heap.size (.slice A' l'.cs.length c') l'.cs) (hb:Below ((wr.alloc (.cells #[.slice none 0 0,.slice none 0 0,.int .i64 0,.int .i64 0,.slice none 0 0,.int .i64 0,.slice none 0 0,.slice none 0 0,.int .i64 0,.int .i64 0,.int .i64 0] 36)).alloc (.cells #[.slice none 0 0,.int .i64 0,.int .i64 0,.int .i64 0,.int .i64 0] 45)).drew.heap.size ((wr.alloc (.cells #[.slice none 0 0,.slice none 0 0,.int .i64 0,.int .i64 0,.slice none 0 0,.int .i64 0,.slice none 0 0,.slice none 0 0,.int .i64 0,.int .i64 0,.int .i64 0] 36)).alloc (.cells #[.slice none 0 0,.int .i64 0,.int .i64 0,.int .i64 0,.int .i64 0] 45)).drew w4) :
  QB w4 wr.heap.size zA zAx/\LB w4 (wr.heap.size+1) zK none 0/\Nx13 wr wr.heap.size (wr.heap.size+1) a' Z l' A' c' (set5 (set11 w4 wr.heap.size a' Z) (wr.heap.size+1) l' A' c'):=by
 have h1:Below wr.heap.size wr ((wr.alloc (.cells #[.slice none 0 0,.slice none 0 0,.int .i64 0,.int .i64 0,.slice none 0 0,.int .i64 0,.slice none 0 0,.slice none 0 0,.int .i64 0,.int .i64 0,.int .i64 0] 36)).alloc (.cells #[.slice none 0 0,.int .i64 0,.int .i64 0,.int .i64 0,.int .i64 0] 45)).drew:=(((Below.refl _ _).alloc (nLR _) _).alloc (by simp) _).drew
 have k1:=LB.start (wr.alloc (.cells #[.slice none 0 0,.slice none 0 0,.int .i64 0,.int .i64 0,.slice none 0 0,.int .i64 0,.slice none 0 0,.slice none 0 0,.int .i64 0,.int .i64 0,.int .i64 0] 36)) zK none 0 45
 rw [show (wr.alloc (.cells #[.slice none 0 0,.slice none 0 0,.int .i64 0,.int .i64 0,.slice none 0 0,.int .i64 0,.slice none 0 0,.slice none 0 0,.int .i64 0,.int .i64 0,.int .i64 0] 36)).heap.size=wr.heap.size+1 by simp] at k1
 have hq:=(((QB.start wr zA zAx 36).alloc (.cells #[.slice none 0 0,.int .i64 0,.int .i64 0,.int .i64 0,.int .i64 0] 45)).up ((Below.refl _ _).drew)).up hb
 have hv:=(k1.up ((Below.refl _ _).drew)).up hb
 have e:((wr.alloc (.cells #[.slice none 0 0,.slice none 0 0,.int .i64 0,.int .i64 0,.slice none 0 0,.int .i64 0,.slice none 0 0,.slice none 0 0,.int .i64 0,.int .i64 0,.int .i64 0] 36)).alloc (.cells #[.slice none 0 0,.int .i64 0,.int .i64 0,.int .i64 0,.int .i64 0] 45)).drew.heap.size=wr.heap.size+2:=by simp
 exact ⟨hq,hv,nx_both h1 ho hr hf hb hq hv ⟨nLR _,by omega⟩ ⟨by omega,by omega⟩ (by omega)⟩
theorem nx_5 (ho:∀ q,wr.heap.size<=q->q<((wr.alloc (.cells #[.slice none 0 0,.int .i64 0,.int .i64 0,.int .i64 0,.int .i64 0] 45)).alloc (.cells #[.slice none 0 0,.slice none 0 0,.int .i64 0,.int .i64 0,.slice none 0 0,.int .i64 0,.slice none 0 0,.slice none 0 0,.int .i64 0,.int .i64 0,.int .i64 0] 36)).drew.heap.size->AOff a' Z q/\OffB q l'.cs.length A') (hr:AR w4 w4.heap.size a' Z) (hf:Fl w4 w4.heap.size (.slice A' l'.cs.length c') l'.cs) (hb:Below ((wr.alloc (.cells #[.slice none 0 0,.int .i64 0,.int .i64 0,.int .i64 0,.int .i64 0] 45)).alloc (.cells #[.slice none 0 0,.slice none 0 0,.int .i64 0,.int .i64 0,.slice none 0 0,.int .i64 0,.slice none 0 0,.slice none 0 0,.int .i64 0,.int .i64 0,.int .i64 0] 36)).drew.heap.size ((wr.alloc (.cells #[.slice none 0 0,.int .i64 0,.int .i64 0,.int .i64 0,.int .i64 0] 45)).alloc (.cells #[.slice none 0 0,.slice none 0 0,.int .i64 0,.int .i64 0,.slice none 0 0,.int .i64 0,.slice none 0 0,.slice none 0 0,.int .i64 0,.int .i64 0,.int .i64 0] 36)).drew w4) :
  QB w4 (wr.heap.size+1) zA zAx/\LB w4 wr.heap.size zK none 0/\Nx13 wr (wr.heap.size+1) wr.heap.size a' Z l' A' c' (set5 (set11 w4 (wr.heap.size+1) a' Z) wr.heap.size l' A' c'):=by
 have h1:Below wr.heap.size wr ((wr.alloc (.cells #[.slice none 0 0,.int .i64 0,.int .i64 0,.int .i64 0,.int .i64 0] 45)).alloc (.cells #[.slice none 0 0,.slice none 0 0,.int .i64 0,.int .i64 0,.slice none 0 0,.int .i64 0,.slice none 0 0,.slice none 0 0,.int .i64 0,.int .i64 0,.int .i64 0] 36)).drew:=(((Below.refl _ _).alloc (nLR _) _).alloc (by simp) _).drew
 have k1:=QB.start (wr.alloc (.cells #[.slice none 0 0,.int .i64 0,.int .i64 0,.int .i64 0,.int .i64 0] 45)) zA zAx 36
 rw [show (wr.alloc (.cells #[.slice none 0 0,.int .i64 0,.int .i64 0,.int .i64 0,.int .i64 0] 45)).heap.size=wr.heap.size+1 by simp] at k1
 have hq:=(k1.up ((Below.refl _ _).drew)).up hb
 have hv:=(((LB.start wr zK none 0 45).alloc (.cells #[.slice none 0 0,.slice none 0 0,.int .i64 0,.int .i64 0,.slice none 0 0,.int .i64 0,.slice none 0 0,.slice none 0 0,.int .i64 0,.int .i64 0,.int .i64 0] 36)).up ((Below.refl _ _).drew)).up hb
 have e:((wr.alloc (.cells #[.slice none 0 0,.int .i64 0,.int .i64 0,.int .i64 0,.int .i64 0] 45)).alloc (.cells #[.slice none 0 0,.slice none 0 0,.int .i64 0,.int .i64 0,.slice none 0 0,.int .i64 0,.slice none 0 0,.slice none 0 0,.int .i64 0,.int .i64 0,.int .i64 0] 36)).drew.heap.size=wr.heap.size+2:=by simp
 exact ⟨hq,hv,nx_both h1 ho hr hf hb hq hv ⟨by omega,by omega⟩ ⟨nLR _,by omega⟩ (by omega)⟩
end
structure Ly (W:World) (S:List Nat) (t:Lc):Prop where
 fl:Fl W W.heap.size (.slice t.A t.l.cs.length t.c) t.l.cs
 o:∀ q∈S,OffB q t.l.cs.length t.A
structure Jd (w:World) (g pa pb b1 b2:Nat) (a:Ar) (Y V:Ax) (Q K:List Lc) (W:World):Prop where
 src:SrcAt W w.heap.size g
 qa:QB W pa a Y
 qb:QB W pb a V
 ra:AR W W.heap.size a Y
 rv:AR W W.heap.size a V
 oy:∀ q∈[g,pa,pb,b1,b2],AOff a Y q
 ov:∀ q∈[g,pa,pb,b1,b2],AOff a V q
 r1:Rb W b1 (kcs Q)
 r2:Rb W b2 (kcs K)
 l1:∀ t∈Q,Ly W [g,pa,pb,b1,b2] t
 l2:∀ t∈K,Ly W [g,pa,pb,b1,b2] t
 ne:w.heap.size<=g/\g<pa/\pa<pb/\pb<b1/\pb<b2/\b1≠b2
 bel:Below w.heap.size w W
section
variable {w W W' : World} {g pa pb b1 b2 k:Nat} {a a' : Ar} {Y V Z X:Ax} {Q K:List Lc} {t s:Lc}
end
end Go.Proofs.YtkecnihgjepfeaaGreat
namespace Go.Proofs.YtkecnihgjepfeaaGreat
open Go.RowKit
set_option linter.unusedVariables false
set_option linter.unusedSimpArgs false
set_option maxHeartbeats 8000000
set_option maxRecDepth 20000
abbrev KAr (p:Nat) (a:Ar) (Y:Ax) (W:World):Prop:=W.cell? ⟨p,26,none⟩=some (.slice Y.A a.sl.length Y.c)/\W.cell? ⟨p,27,none⟩=some (.slice Y.A2 a.st.length Y.c2)/\W.cell? ⟨p,28,none⟩=some (.int .i64 a.ow)/\W.cell? ⟨p,29,none⟩=some (.int .i64 a.cap)/\W.cell? ⟨p,30,none⟩=some (.slice Y.A3 a.dl.length Y.c3)/\W.cell? ⟨p,31,none⟩=some (.int .i64 a.dir.vn)/\W.cell? ⟨p,32,none⟩=some (.slice Y.D.A a.dir.l.length Y.D.c)/\W.cell? ⟨p,33,none⟩=some (.slice Y.D.A2 a.dir.F.length Y.D.c2)/\W.cell? ⟨p,34,none⟩=some (.int .i64 a.ep)/\W.cell? ⟨p,35,none⟩=some (.int .i64 a.ck)/\W.cell? ⟨p,36,none⟩=some (.int .i64 a.ni) 
abbrev KLk (p:Nat) (s:Se) (X:Sex) (W:World):Prop:=W.cell? ⟨p,2,none⟩=some (.slice X.Al s.lk.cs.length X.cl)/\W.cell? ⟨p,3,none⟩=some (.int .i64 s.lk.ph)/\W.cell? ⟨p,4,none⟩=some (.int .i64 s.lk.hv)/\W.cell? ⟨p,5,none⟩=some (.int .i64 s.lk.tr)/\W.cell? ⟨p,6,none⟩=some (.int .i64 s.lk.wt) 
abbrev KTk (p:Nat) (t:Int) (W:World):Prop:=W.cell? ⟨p,37,none⟩=some (.int .i64 t)
theorem LB.stN15 {W:World} {p q:Nat} {l:Lk} {A:Option Addr} {c:Nat} {vs:List Value} (h:LB W q l A c) (hp:¬p=q) (o:Nat):LB (stN15 W p o vs) q l A c:=by
 induction vs generalizing W o with
 | nil=>exact h
 | cons v vs ih=>exact ih (h.other (x:=⟨p,o,none⟩) hp v) (o+1)
section
variable {W:World} {B p:Nat} {s:Se} {X:Sex} {a:Ar} {Y:Ax} {t n:Int}
theorem Ur.kar (h:Ur B p s X a Y t n W):KAr p a Y W:=⟨h.rb.c 26 _ rfl,h.rb.c 27 _ rfl,h.rb.c 28 _ rfl,h.rb.c 29 _ rfl,h.rb.c 30 _ rfl,h.rb.c 31 _ rfl,h.rb.c 32 _ rfl,h.rb.c 33 _ rfl,h.rb.c 34 _ rfl,h.rb.c 35 _ rfl,h.rb.c 36 _ rfl⟩
theorem Ur.klk (h:Ur B p s X a Y t n W):KLk p s X W:=⟨h.rb.c 2 _ rfl,h.rb.c 3 _ rfl,h.rb.c 4 _ rfl,h.rb.c 5 _ rfl,h.rb.c 6 _ rfl⟩
theorem Ur.ktk (h:Ur B p s X a Y t n W):KTk p t W:=h.rb.c 37 _ rfl
end
def avP (N:Nat) (s:Se) (k ph:Int):Se:=if s.at_+1<k then { s with at_:=s.at_+1 } else enP N { s with at_:=s.at_+1 } ph
def avE (N:Nat) (s:Se) (k ph:Int):Int:=if s.at_+1<k then 0 else ntE N { s with at_:=s.at_+1 } ph
theorem uadvance_any {B p:Nat} {s:Se} {X:Sex} {a:Ar} {Y:Ax} {t n:Int} (k ph:Int) (w:World) (h:Ur B p s X a Y t n w) (hl:s.lk.cs.length<=9) (h0:0<=ph) (h9:ph<=9) (ha:-9<=s.at_/\s.at_<=1000):Calls Tryz.prog 84 #[.pointer (some ⟨p,0,none⟩),.int .i64 k,.int .i64 ph] w (UrP B p t n (avP a.sl.length s k ph) a (avE a.sl.length s k ph) w):=by
 have H0:=Lh h
 have HE:=Lh (fun W (k:Ur B p { s with at_:=s.at_+1 } X a Y t n W)=>uenter_any ph W k hl h0 h9)
 have HA:=Lh (h.at1 (s.at_+1))
 have hw:IntKind.i64.wrap (s.at_+1)=s.at_+1:=IntWalk.i64_in _ (by omega)
 have HBW:=Lh (show Below B w (w.setCell ⟨p,1,none⟩ (.int .i64 (s.at_+1))) from (Below.refl B w).setCell (p:=⟨p,1,none⟩) h.ne _)
 obtain ⟨R,hR⟩:∃ R,R=avP a.sl.length s k ph:=⟨_,rfl⟩
 obtain ⟨E,hE⟩:∃ R,R=avE a.sl.length s k ph:=⟨_,rfl⟩
 rw [<-hR,<-hE]
 by_cases hlt:s.at_+1<k
 ·have HR:=Lh (show R = { s with at_:=s.at_+1 }/\E=0 from ⟨hR.trans (if_pos hlt),hE.trans (if_pos hlt)⟩)
  have HF:=Lh (show UrP B p t n R a E w (.returned (.int .i64 0)) (w.setCell ⟨p,1,none⟩ (.int .i64 (s.at_+1))) from by rw [HR.out.1,HR.out.2];exact HA.out.rp HBW.out 0)
  clear h hl h0 h9 ha hR hE HA HE HBW
  go_enter Tryz.func84,Tryz.ntmps84
  have c1:=H0.out.rb.c 1 _ rfl
  have f1:=H0.out.rb.f 1
  have yl:=H0.out.rb.lt
  clear H0
  go_wp2
  go_ret
  exact HF.out
 ·have HR:=Lh (show R=enP a.sl.length { s with at_:=s.at_+1 } ph/\E=ntE a.sl.length { s with at_:=s.at_+1 } ph from ⟨hR.trans (if_neg hlt),hE.trans (if_neg hlt)⟩)
  rw [<-HR.out.1,<-HR.out.2] at HE
  clear h hl h0 h9 ha hR hE HR
  go_enter Tryz.func84,Tryz.ntmps84
  have c1:=H0.out.rb.c 1 _ rfl
  have f1:=H0.out.rb.f 1
  have yl:=H0.out.rb.lt
  clear H0
  go_upto_region 2 with (fail)
  clear c1 f1 yl
  generalize w.setCell ⟨p,1,none⟩ (.int .i64 (s.at_+1))=w1 at*
  have c1:=HA.out.rb.c 1 _ rfl
  have yl:=HA.out.rb.lt
  simp only at c1
  go_wp2_with fail
  refine (HE.out _ HA.out).mono ?_
  rintro e w2 ⟨X',Y',rfl,hu,hb⟩
  have HF:=Lh (show UrP B p t n R a E w (.returned (.int .i64 E)) w2 from ⟨X',Y',rfl,hu,HBW.out.trans (hb.mono (nLR _))⟩)
  clear hu hb HA HE HBW
  go_wp2
  go_ret
  exact HF.out
def slA (a:Ar) (s:Se) (t:Int):Ar:=stA13 a s.lk t
def slP (a:Ar) (s:Se) (t en nx:Int):Se:=if (stL13 a s.lk t).ph=en then enP (stA13 a s.lk t).sl.length (s.lkd (stL13 a s.lk t)) nx else s.lkd (stL13 a s.lk t)
def slE15 (a:Ar) (s:Se) (t en nx:Int):Int:=if (stL13 a s.lk t).ph=en then ntE (stA13 a s.lk t).sl.length (s.lkd (stL13 a s.lk t)) nx else 0
theorem usteplk_any {B p:Nat} {s:Se} {X:Sex} {a:Ar} {Y:Ax} {t n:Int} (en nx:Int) (wr:World) (h:Ur B p s X a Y t n wr) (hw:a.Few) (hs:s.lk.sm) (hl:(stL13 a s.lk t).cs.length<=9) (h0:0<=nx) (h9:nx<=9) (hE:stE13 a s.lk t=0):Calls Tryz.prog 81 #[.pointer (some ⟨p,0,none⟩),.int .i64 en,.int .i64 nx] wr (UrP B p t n (slP a s t en nx) (slA a s t) (slE15 a s t en nx) wr):=by
 have HEN:=Lh (fun A c Z W (k:Ur B p (s.lkd (stL13 a s.lk t)) { X with Al:=A,cl:=c } (stA13 a s.lk t) Z t n W)=>uenter_any nx W k hl h0 h9)
 have HT:=Lh (fun W (k:Below wr.heap.size wr W)=>jstep_any a Y s.lk X.Al X.cl t W (h.up k).ar (h.up k).se.lock hw hs)
 rw [hE] at HT
 have H0:=Lh h
 have HSK:=Lh (show ∀ W,Below wr.heap.size wr W->(KAr p a Y W/\KLk p s X W)/\KTk p t W from fun W k=>⟨⟨(h.up k).kar,(h.up k).klk⟩,(h.up k).ktk⟩)
 have HB0:=Lh (Below.refl wr.heap.size wr)
 obtain ⟨R,hR⟩:∃ R,R=slP a s t en nx:=⟨_,rfl⟩
 obtain ⟨E,hE2⟩:∃ R,R=slE15 a s t en nx:=⟨_,rfl⟩
 obtain ⟨M,hM⟩:∃ R,R=stL13 a s.lk t:=⟨_,rfl⟩
 obtain ⟨TA,hTA⟩:∃ R,R=stA13 a s.lk t:=⟨_,rfl⟩
 have HR:=Lh (show R=(if M.ph=en then enP TA.sl.length (s.lkd M) nx else s.lkd M)/\E=(if M.ph=en then ntE TA.sl.length (s.lkd M) nx else 0) from ⟨by rw [hR,hM,hTA];rfl,by rw [hE2,hM,hTA];rfl⟩)
 rw [<-hR,<-hE2,show slA a s t=TA from hTA.symm]
 rw [<-hM,<-hTA] at HT HEN
 clear h hw hs hl h0 h9 hE hR hE2 hM hTA
 go_enter Tryz.func81,Tryz.ntmps81
 go_upto_region 1 with (fail)
 go_cut [7,8,9] (fun s16 s17 s18 wx=>∃ (u v:Nat) (Z:Ax) (A' : Option Addr) (c' : Nat),s16=.pointer (some ⟨u,0,none⟩)/\s17=.pointer (some ⟨v,0,none⟩)/\s18=.int .i64 0/\Hid (Nx13 wr u v TA Z M A' c' wx)/\Hid (Z.nw wr.heap.size/\Nw wr.heap.size A'))
 case first=>
  go_region_held3 (fun W=>(KAr p a Y W/\KLk p s X W)/\KTk p t W)
   ((refine HSK.out _ ?_;repeat' (first | with_reducible exact HB0.out | with_reducible exact HB4.out | with_reducible refine bal ?_ _ | with_reducible refine bdr ?_ | with_reducible refine bst ?_ ?_ _ | exact nLR _ | (simp;done) | (simp;omega))))
   (first | (go_at_call 110;(with_reducible refine (HT.out _ ?hbel).mono ?_);(case hbel=>(repeat' (first | with_reducible exact HB0.out | with_reducible refine bal ?_ _ | with_reducible refine bdr ?_)));rintro e w4 ⟨Z,A',c',rfl,hn,hm,hr,hf,hb⟩;have HP:=Lh (nx_4 (fun q _ hq=>And.intro (hn.off hq) (offb_nw hm hq)) hr hf hb).2.2;have HXU:=Lh (nx_4 (fun q _ hq=>And.intro (hn.off hq) (offb_nw hm hq)) hr hf hb).1;have HXV:=Lh (nx_4 (fun q _ hq=>And.intro (hn.off hq) (offb_nw hm hq)) hr hf hb).2.1;have HZN:=Lh (And.intro (hn.low (show wr.heap.size<=_ from (by simp <;> omega))) (nw_low hm (show wr.heap.size<=_ from (by simp <;> omega))));have HB4:=Lh ((bdr (bal (bal HB0.out (.cells #[.slice none 0 0,.slice none 0 0,.int .i64 0,.int .i64 0,.slice none 0 0,.int .i64 0,.slice none 0 0,.slice none 0 0,.int .i64 0,.int .i64 0,.int .i64 0] 36)) (.cells #[.slice none 0 0,.int .i64 0,.int .i64 0,.int .i64 0,.int .i64 0] 45))).trans (hb.mono (by simp <;> omega)));obtain ⟨z0,z1,z2,z3,z4,z5,z6,z7,z8,z9,z10⟩:=HXU.out.k;have zl:=HXU.out.lt;obtain ⟨f0,f1,f2,f3,f4,f5,f6,f7,f8,f9,f10⟩:=HXU.out.free;obtain ⟨v0,v1,v2,v3,v4⟩:=HXV.out.k;have vl:=HXV.out.lt;obtain ⟨e0,e1,e2,e3,e4⟩:=HXV.out.free;have huv:¬wr.heap.size=wr.heap.size+1:=(by omega);have hvu:¬wr.heap.size+1=wr.heap.size:=(by omega);clear hb hr hf) | (go_at_call 110;(with_reducible refine (HT.out _ ?hbel).mono ?_);(case hbel=>(repeat' (first | with_reducible exact HB0.out | with_reducible refine bal ?_ _ | with_reducible refine bdr ?_)));rintro e w4 ⟨Z,A',c',rfl,hn,hm,hr,hf,hb⟩;have HP:=Lh (nx_5 (fun q _ hq=>And.intro (hn.off hq) (offb_nw hm hq)) hr hf hb).2.2;have HXU:=Lh (nx_5 (fun q _ hq=>And.intro (hn.off hq) (offb_nw hm hq)) hr hf hb).1;have HXV:=Lh (nx_5 (fun q _ hq=>And.intro (hn.off hq) (offb_nw hm hq)) hr hf hb).2.1;have HZN:=Lh (And.intro (hn.low (show wr.heap.size<=_ from (by simp <;> omega))) (nw_low hm (show wr.heap.size<=_ from (by simp <;> omega))));have HB4:=Lh ((bdr (bal (bal HB0.out (.cells #[.slice none 0 0,.int .i64 0,.int .i64 0,.int .i64 0,.int .i64 0] 45)) (.cells #[.slice none 0 0,.slice none 0 0,.int .i64 0,.int .i64 0,.slice none 0 0,.int .i64 0,.slice none 0 0,.slice none 0 0,.int .i64 0,.int .i64 0,.int .i64 0] 36))).trans (hb.mono (by simp <;> omega)));obtain ⟨z0,z1,z2,z3,z4,z5,z6,z7,z8,z9,z10⟩:=HXU.out.k;have zl:=HXU.out.lt;obtain ⟨f0,f1,f2,f3,f4,f5,f6,f7,f8,f9,f10⟩:=HXU.out.free;obtain ⟨v0,v1,v2,v3,v4⟩:=HXV.out.k;have vl:=HXV.out.lt;obtain ⟨e0,e1,e2,e3,e4⟩:=HXV.out.free;have huv:¬wr.heap.size=wr.heap.size+1:=(by omega);have hvu:¬wr.heap.size+1=wr.heap.size:=(by omega);clear hb hr hf) | (go_at_call 110;(with_reducible refine (HT.out _ ?hbel).mono ?_);(case hbel=>(repeat' (first | with_reducible exact HB0.out | with_reducible refine bal ?_ _ | with_reducible refine bdr ?_)));rintro e w4 ⟨Z,A',c',rfl,hn,hm,hr,hf,hb⟩;have HP:=Lh (nx_2 (fun q _ hq=>And.intro (hn.off hq) (offb_nw hm hq)) hr hf hb).2;have HXU:=Lh (nx_2 (fun q _ hq=>And.intro (hn.off hq) (offb_nw hm hq)) hr hf hb).1;have HZN:=Lh (And.intro (hn.low (show wr.heap.size<=_ from (by simp <;> omega))) (nw_low hm (show wr.heap.size<=_ from (by simp <;> omega))));have HB4:=Lh ((bdr (bal HB0.out (.cells #[.slice none 0 0,.slice none 0 0,.int .i64 0,.int .i64 0,.slice none 0 0,.int .i64 0,.slice none 0 0,.slice none 0 0,.int .i64 0,.int .i64 0,.int .i64 0] 36))).trans (hb.mono (by simp <;> omega)));obtain ⟨z0,z1,z2,z3,z4,z5,z6,z7,z8,z9,z10⟩:=HXU.out.k;have zl:=HXU.out.lt;obtain ⟨f0,f1,f2,f3,f4,f5,f6,f7,f8,f9,f10⟩:=HXU.out.free;clear hb hr hf) | (go_at_call 110;(with_reducible refine (HT.out _ ?hbel).mono ?_);(case hbel=>(repeat' (first | with_reducible exact HB0.out | with_reducible refine bal ?_ _ | with_reducible refine bdr ?_)));rintro e w4 ⟨Z,A',c',rfl,hn,hm,hr,hf,hb⟩;have HP:=Lh (nx_3 (fun q _ hq=>And.intro (hn.off hq) (offb_nw hm hq)) hr hf hb).2;have HXV:=Lh (nx_3 (fun q _ hq=>And.intro (hn.off hq) (offb_nw hm hq)) hr hf hb).1;have HZN:=Lh (And.intro (hn.low (show wr.heap.size<=_ from (by simp <;> omega))) (nw_low hm (show wr.heap.size<=_ from (by simp <;> omega))));have HB4:=Lh ((bdr (bal HB0.out (.cells #[.slice none 0 0,.int .i64 0,.int .i64 0,.int .i64 0,.int .i64 0] 45))).trans (hb.mono (by simp <;> omega)));obtain ⟨v0,v1,v2,v3,v4⟩:=HXV.out.k;have vl:=HXV.out.lt;obtain ⟨e0,e1,e2,e3,e4⟩:=HXV.out.free;clear hb hr hf) | (go_at_call 110;(with_reducible refine (HT.out _ ?hbel).mono ?_);(case hbel=>(repeat' (first | with_reducible exact HB0.out | with_reducible refine bal ?_ _ | with_reducible refine bdr ?_)));rintro e w4 ⟨Z,A',c',rfl,hn,hm,hr,hf,hb⟩;have HP:=Lh (nx_1 (bdr HB0.out) hr hf hb).1;have HPQ:=Lh (nx_1 (bdr HB0.out) hr hf hb).2;have HZN:=Lh (And.intro (hn.low (show wr.heap.size<=_ from (by simp <;> omega))) (nw_low hm (show wr.heap.size<=_ from (by simp <;> omega))));have HB4:=Lh ((bdr HB0.out).trans (hb.mono (by simp <;> omega)));clear hb hr hf))
  all_goals
   go_wp2_with fail
   go_meet
   first
   | exact ⟨_,_,Z,A',c',rfl,rfl,rfl,HP,HZN⟩
   | exact ⟨_,_,Z,A',c',rfl,rfl,rfl,HPQ,HZN⟩
 case rest=>
  obtain ⟨u,v,Z,A',c',rfl,rfl,rfl,HN,HZ⟩:=hcut
  have HD:=Lh (show ¬p=u/\¬p=v from ⟨Nat.ne_of_lt (Nat.lt_of_lt_of_le H0.out.lt HN.out.ne.1),Nat.ne_of_lt (Nat.lt_of_lt_of_le H0.out.lt HN.out.ne.2.1)⟩)
  have HL:=Lh (show (AOff TA Z p/\Z.nw B)/\OffB p M.cs.length A'/\Nw B A' from ⟨⟨HZ.out.1.off H0.out.lt,HZ.out.1.low (Nat.le_trans H0.out.ne (Nat.le_of_lt H0.out.lt))⟩,offb_nw HZ.out.2 H0.out.lt,nw_low HZ.out.2 (Nat.le_trans H0.out.ne (Nat.le_of_lt H0.out.lt))⟩)
  have HLF:=Lh HN.out.fl
  have HBB:=Lh (show Below B wr wc from HN.out.bel.mono (Nat.le_trans H0.out.ne (Nat.le_of_lt H0.out.lt)))
  have H1:=Lh (H0.out.up HN.out.bel)
  clear HT HSK HB0 HZ H0
  generalize wc=w1 at*
  obtain ⟨u0,u1,u2,u3,u4,u5,u6,u7,u8,u9,u10⟩:=HN.out.ub.k
  have ul:=HN.out.ub.lt
  obtain ⟨v0,v1,v2,v3,v4⟩:=HN.out.vb.k
  have vl:=HN.out.vb.lt
  have c2:=H1.out.rb.c 2 _ rfl
  have f2:=H1.out.rb.f 2
  have c3:=H1.out.rb.c 3 _ rfl
  have f3:=H1.out.rb.f 3
  have c4:=H1.out.rb.c 4 _ rfl
  have f4:=H1.out.rb.f 4
  have c5:=H1.out.rb.c 5 _ rfl
  have f5:=H1.out.rb.f 5
  have c6:=H1.out.rb.c 6 _ rfl
  have f6:=H1.out.rb.f 6
  have c26:=H1.out.rb.c 26 _ rfl
  have f26:=H1.out.rb.f 26
  have c27:=H1.out.rb.c 27 _ rfl
  have f27:=H1.out.rb.f 27
  have c28:=H1.out.rb.c 28 _ rfl
  have f28:=H1.out.rb.f 28
  have c29:=H1.out.rb.c 29 _ rfl
  have f29:=H1.out.rb.f 29
  have c30:=H1.out.rb.c 30 _ rfl
  have f30:=H1.out.rb.f 30
  have c31:=H1.out.rb.c 31 _ rfl
  have f31:=H1.out.rb.f 31
  have c32:=H1.out.rb.c 32 _ rfl
  have f32:=H1.out.rb.f 32
  have c33:=H1.out.rb.c 33 _ rfl
  have f33:=H1.out.rb.f 33
  have c34:=H1.out.rb.c 34 _ rfl
  have f34:=H1.out.rb.f 34
  have c35:=H1.out.rb.c 35 _ rfl
  have f35:=H1.out.rb.f 35
  have c36:=H1.out.rb.c 36 _ rfl
  have f36:=H1.out.rb.f 36
  have yl:=H1.out.rb.lt
  have npu:=HD.out.1
  have npv:=HD.out.2
  have nup:¬u=p:=fun e=>npu e.symm
  have nvp:¬v=p:=fun e=>npv e.symm
  go_upto_region 4 with (fail)
  go_region
  all_goals
   first
   | (obtain ⟨w2,hw2⟩:∃ x,x=((((((((((((((((w1.setCell ⟨p,2,none⟩ (.slice A' M.cs.length c')).setCell ⟨p,3,none⟩ (.int .i64 M.ph)).setCell ⟨p,4,none⟩ (.int .i64 M.hv)).setCell ⟨p,5,none⟩ (.int .i64 M.tr)).setCell ⟨p,6,none⟩ (.int .i64 M.wt)).setCell ⟨p,26,none⟩ (.slice Z.A TA.sl.length Z.c)).setCell ⟨p,27,none⟩ (.slice Z.A2 TA.st.length Z.c2)).setCell ⟨p,28,none⟩ (.int .i64 TA.ow)).setCell ⟨p,29,none⟩ (.int .i64 TA.cap)).setCell ⟨p,30,none⟩ (.slice Z.A3 TA.dl.length Z.c3)).setCell ⟨p,31,none⟩ (.int .i64 TA.dir.vn)).setCell ⟨p,32,none⟩ (.slice Z.D.A TA.dir.l.length Z.D.c)).setCell ⟨p,33,none⟩ (.slice Z.D.A2 TA.dir.F.length Z.D.c2)).setCell ⟨p,34,none⟩ (.int .i64 TA.ep)).setCell ⟨p,35,none⟩ (.int .i64 TA.ck)).setCell ⟨p,36,none⟩ (.int .i64 TA.ni)):=⟨_,rfl⟩;rw [<-hw2];have HU:=Lh (show Ur B p (s.lkd M) { X with Al:=A',cl:=c' } TA Z t n w2/\Below B wr w2/\LB w2 v M A' c' from (by rw [hw2];exact ⟨(H1.out.lok HLF.out HL.out.2.1 HL.out.2.2).arn (HN.out.ar.stN15 (vs:=[.slice A' M.cs.length c',.int .i64 M.ph,.int .i64 M.hv,.int .i64 M.tr,.int .i64 M.wt]) HL.out.1.1 2 |>.more (by simp)) HL.out.1.1 HL.out.1.2,stN15_below (vs:=[.slice Z.A TA.sl.length Z.c,.slice Z.A2 TA.st.length Z.c2,.int .i64 TA.ow,.int .i64 TA.cap,.slice Z.A3 TA.dl.length Z.c3,.int .i64 TA.dir.vn,.slice Z.D.A TA.dir.l.length Z.D.c,.slice Z.D.A2 TA.dir.F.length Z.D.c2,.int .i64 TA.ep,.int .i64 TA.ck,.int .i64 TA.ni]) (stN15_below (vs:=[.slice A' M.cs.length c',.int .i64 M.ph,.int .i64 M.hv,.int .i64 M.tr,.int .i64 M.wt]) HBB.out H1.out.ne 2) H1.out.ne 26,(HN.out.vb.stN15 (vs:=[.slice A' M.cs.length c',.int .i64 M.ph,.int .i64 M.hv,.int .i64 M.tr,.int .i64 M.wt]) npv 2).stN15 (vs:=[.slice Z.A TA.sl.length Z.c,.slice Z.A2 TA.st.length Z.c2,.int .i64 TA.ow,.int .i64 TA.cap,.slice Z.A3 TA.dl.length Z.c3,.int .i64 TA.dir.vn,.slice Z.D.A TA.dir.l.length Z.D.c,.slice Z.D.A2 TA.dir.F.length Z.D.c2,.int .i64 TA.ep,.int .i64 TA.ck,.int .i64 TA.ni]) npv 26⟩));clear hw2)
   | (obtain ⟨w2,hw2⟩:∃ x,x=((((((((((((((((w1.setCell ⟨p,26,none⟩ (.slice Z.A TA.sl.length Z.c)).setCell ⟨p,27,none⟩ (.slice Z.A2 TA.st.length Z.c2)).setCell ⟨p,28,none⟩ (.int .i64 TA.ow)).setCell ⟨p,29,none⟩ (.int .i64 TA.cap)).setCell ⟨p,30,none⟩ (.slice Z.A3 TA.dl.length Z.c3)).setCell ⟨p,31,none⟩ (.int .i64 TA.dir.vn)).setCell ⟨p,32,none⟩ (.slice Z.D.A TA.dir.l.length Z.D.c)).setCell ⟨p,33,none⟩ (.slice Z.D.A2 TA.dir.F.length Z.D.c2)).setCell ⟨p,34,none⟩ (.int .i64 TA.ep)).setCell ⟨p,35,none⟩ (.int .i64 TA.ck)).setCell ⟨p,36,none⟩ (.int .i64 TA.ni)).setCell ⟨p,2,none⟩ (.slice A' M.cs.length c')).setCell ⟨p,3,none⟩ (.int .i64 M.ph)).setCell ⟨p,4,none⟩ (.int .i64 M.hv)).setCell ⟨p,5,none⟩ (.int .i64 M.tr)).setCell ⟨p,6,none⟩ (.int .i64 M.wt)):=⟨_,rfl⟩;rw [<-hw2];have HU:=Lh (show Ur B p (s.lkd M) { X with Al:=A',cl:=c' } TA Z t n w2/\Below B wr w2/\LB w2 v M A' c' from (by rw [hw2];exact ⟨(H1.out.arn HN.out.ar HL.out.1.1 HL.out.1.2).lok (HLF.out.stN15 (vs:=[.slice Z.A TA.sl.length Z.c,.slice Z.A2 TA.st.length Z.c2,.int .i64 TA.ow,.int .i64 TA.cap,.slice Z.A3 TA.dl.length Z.c3,.int .i64 TA.dir.vn,.slice Z.D.A TA.dir.l.length Z.D.c,.slice Z.D.A2 TA.dir.F.length Z.D.c2,.int .i64 TA.ep,.int .i64 TA.ck,.int .i64 TA.ni]) HL.out.2.1 26 |>.more (by simp)) HL.out.2.1 HL.out.2.2,stN15_below (vs:=[.slice A' M.cs.length c',.int .i64 M.ph,.int .i64 M.hv,.int .i64 M.tr,.int .i64 M.wt]) (stN15_below (vs:=[.slice Z.A TA.sl.length Z.c,.slice Z.A2 TA.st.length Z.c2,.int .i64 TA.ow,.int .i64 TA.cap,.slice Z.A3 TA.dl.length Z.c3,.int .i64 TA.dir.vn,.slice Z.D.A TA.dir.l.length Z.D.c,.slice Z.D.A2 TA.dir.F.length Z.D.c2,.int .i64 TA.ep,.int .i64 TA.ck,.int .i64 TA.ni]) HBB.out H1.out.ne 26) H1.out.ne 2,(HN.out.vb.stN15 (vs:=[.slice Z.A TA.sl.length Z.c,.slice Z.A2 TA.st.length Z.c2,.int .i64 TA.ow,.int .i64 TA.cap,.slice Z.A3 TA.dl.length Z.c3,.int .i64 TA.dir.vn,.slice Z.D.A TA.dir.l.length Z.D.c,.slice Z.D.A2 TA.dir.F.length Z.D.c2,.int .i64 TA.ep,.int .i64 TA.ck,.int .i64 TA.ni]) npv 26).stN15 (vs:=[.slice A' M.cs.length c',.int .i64 M.ph,.int .i64 M.hv,.int .i64 M.tr,.int .i64 M.wt]) npv 2⟩));clear hw2)
   clear H1 HN HL HBB HLF u0 u1 u2 u3 u4 u5 u6 u7 u8 u9 u10 ul v0 v1 v2 v3 v4 vl c2 f2 c3 f3 c4 f4 c5 f5 c6 f6 c26 f26 c27 f27 c28 f28 c29 f29 c30 f30 c31 f31 c32 f32 c33 f33 c34 f34 c35 f35 c36 f36 yl npu npv nup nvp
   replace HU:=Lh (show Ur B p (s.lkd M) { X with Al:=A',cl:=c' } TA Z t n w2.drew/\Below B wr w2.drew/\LB w2.drew v M A' c' from ⟨HU.out.1.up (Below.refl _ _).drew,HU.out.2.1.drew,HU.out.2.2.up (Below.refl _ _).drew⟩)
   generalize w2.drew=w2 at*
   obtain ⟨v0,v1,v2,v3,v4⟩:=HU.out.2.2.k
   have vl:=HU.out.2.2.lt
   by_cases hph:M.ph=en
   ·have hb:(M.ph != en)=false:=by simp [hph]
    have HRR:=Lh (show R=enP TA.sl.length (s.lkd M) nx/\E=ntE TA.sl.length (s.lkd M) nx from ⟨HR.out.1.trans (if_pos hph),HR.out.2.trans (if_pos hph)⟩)
    clear hph HR
    go_wp2_with fail
    clear v0 v1 v2 v3 v4 vl
    refine (HEN.out _ _ _ _ HU.out.1).mono ?_
    rintro e w3 ⟨X2,Y2,rfl,hu,hbb⟩
    have HF:=Lh (show UrP B p t n R TA E wr (.returned (.int .i64 E)) w3 from by
     refine ⟨X2,Y2,rfl,?_,HU.out.2.1.trans (hbb.mono (nLR _))⟩
     rw [HRR.out.1];exact hu)
    rw [<-HRR.out.2]
    clear hu hbb HRR HU HEN
    go_wp2
    go_ret
    exact HF.out
   ·have hb:(M.ph != en)=true:=bne_iff_ne.2 hph
    have HF:=Lh (show UrP B p t n R TA E wr (.returned (.int .i64 0)) w2 from by
     rw [show R=s.lkd M from HR.out.1.trans (if_neg hph),show E=0 from HR.out.2.trans (if_neg hph)]
     exact HU.out.1.rp HU.out.2.1 0)
    clear HR HEN HU hph
    go_wp2
    go_ret
    exact HF.out
theorem ulockm_any {B p:Nat} {s:Se} {X:Sex} {a:Ar} {Y:Ax} {t n:Int} (w:World) (h:Ur B p s X a Y t n w) (hw:a.Few) (hs:s.lk.sm) (hl:(stL13 a s.lk t).cs.length<=9) (hE:stE13 a s.lk t=0):Calls Tryz.prog 58 #[.pointer (some ⟨p,0,none⟩)] w (UrP B p t n (slP a s t 3 1) (slA a s t) (slE15 a s t 3 1) w):=by
 have HC:=Lh (usteplk_any 3 1 w h hw hs hl (by decide) (by decide) hE)
 clear h hw hs hl hE
 generalize slP a s t 3 1=R at*
 generalize slA a s t=TA at*
 generalize slE15 a s t 3 1=E at*
 go_enter Tryz.func58,Tryz.ntmps58
 go_wp2_with fail
 refine HC.out.mono ?_
 rintro e w2 ⟨X2,Y2,rfl,hu,hb⟩
 have HF:=Lh (show UrP B p t n R TA E w (.returned (.int .i64 E)) w2 from ⟨X2,Y2,rfl,hu,hb⟩)
 clear hu hb HC
 go_wp2
 go_ret
 exact HF.out
theorem ufreem_any {B p:Nat} {s:Se} {X:Sex} {a:Ar} {Y:Ax} {t n:Int} (w:World) (h:Ur B p s X a Y t n w) (hw:a.Few) (hs:s.lk.sm) (hl:(stL13 a s.lk t).cs.length<=9) (hE:stE13 a s.lk t=0):Calls Tryz.prog 65 #[.pointer (some ⟨p,0,none⟩)] w (UrP B p t n (slP a s t 5 9) (slA a s t) (slE15 a s t 5 9) w):=by
 have HC:=Lh (usteplk_any 5 9 w h hw hs hl (by decide) (by decide) hE)
 clear h hw hs hl hE
 generalize slP a s t 5 9=R at*
 generalize slA a s t=TA at*
 generalize slE15 a s t 5 9=E at*
 go_enter Tryz.func65,Tryz.ntmps65
 go_wp2_with fail
 refine HC.out.mono ?_
 rintro e w2 ⟨X2,Y2,rfl,hu,hb⟩
 have HF:=Lh (show UrP B p t n R TA E w (.returned (.int .i64 E)) w2 from ⟨X2,Y2,rfl,hu,hb⟩)
 clear hu hb HC
 go_wp2
 go_ret
 exact HF.out
end Go.Proofs.YtkecnihgjepfeaaGreat
/- Plain: the box of a running section, whose list of stripes may be written and appended to; boxes that are made beside a call. -/
namespace Go.Proofs.YtkecnihgjepfeaaGreat
open Go.RowKit
set_option linter.unusedVariables false
set_option linter.unusedSimpArgs false
set_option maxHeartbeats 8000000
set_option maxRecDepth 20000
def Se.no (s:Se):Se:={ s with st:=[] }
def Sex.no (X:Sex):Sex:={ X with At:=none,ct:=0 }
theorem no_of {P:Rw15->Prop} {s:Se} {X:Sex} (h:∀ r∈s.rows X,P r) (h4:P ⟨4,none,0,[]⟩):∀ r∈s.no.rows X.no,P r:=
 se_rows_of (s:=s.no) (X:=X.no) (h ⟨1,X.Al,s.lk.cs.length,ics s.lk.cs⟩ (by simp [Se.rows])) (fun r hr=>h r (by simp only [Se.rows,List.mem_cons,List.mem_append];exact .inr (.inl hr))) (h ⟨7,X.Ad,s.dl.length,lcs s.dl⟩ (by simp [Se.rows])) h4 (h ⟨3,X.D.A,s.dir.l.length,scs s.dir.l⟩ (by simp [Se.rows])) (h ⟨1,X.D.A2,s.dir.F.length,ics s.dir.F⟩ (by simp [Se.rows])) (h ⟨7,X.Ac,s.ca.length,lcs s.ca⟩ (by simp [Se.rows])) (fun r hr=>h r (by simp only [Se.rows,List.mem_cons,List.mem_append];exact .inr (.inr (.inr hr))))
structure Us (B p:Nat) (s:Se) (X:Sex) (a:Ar) (Y:Ax) (W:World):Prop where
 own:W.ownsRow B 63 4 (.slice X.At s.st.length X.ct) s.st.length (tcs s.st)
 off:∀ b,(Value.slice X.At s.st.length X.ct).ownBlock=some b->b≠p/\AOff a Y b/\ROff (s.no.rows X.no) b
section
variable {W W' : World} {B p g1 c1:Nat} {s:Se} {X:Sex} {a:Ar} {Y:Ax} {t n:Int}
theorem Us.up (h:Us B p s X a Y W) (hb:Below W.heap.size W W'):Us B p s X a Y W':=⟨own_up10 h.own hb,h.off⟩
theorem Rb.grownN {q:Nat} {cs:List Value} {g:Option Nat} (h:Rb W q cs) (hg:W.grownBy W' g) (hne:∀ b,g=some b->b≠q):Rb W' q cs:=by
 cases g with
 | none=>exact h.up ((Below.refl _ _).grown hg (nLR _) (fun k e=>by cases e))
 | some b=>exact h.grown hg (fun e=>hne b rfl e.symm)
theorem AR.grown15 {g:Nat} (h:AR W W.heap.size a Y) (hg:W.grownBy W' (some g)) (ho:AOff a Y g):AR W' W'.heap.size a Y:=h.grown13 hg ho
theorem AR.grownN15 {g:Option Nat} (h:AR W W.heap.size a Y) (hg:W.grownBy W' g) (ho:∀ b,g=some b->AOff a Y b):AR W' W'.heap.size a Y:=by
 cases g with
 | none=>exact h.up ((Below.refl _ _).grown hg (nLR _) (fun k e=>by cases e))
 | some b=>exact h.grown13 hg (ho b rfl)
theorem Ur.app (h:Ur B p s X a Y t n W) (ho:Us B p s X a Y W) {x:St}
  (hown:W'.ownsRow B 63 4 (.slice (some ⟨g1,0,none⟩) (s.st.length+1) c1) (s.st.length+1) (tcs s.st++x.l)) (hg:W.grownBy W' (Value.slice X.At s.st.length X.ct).ownBlock) (hat:(Value.slice X.At s.st.length X.ct).ownBlock=some g1\/g1=W.heap.size) :
  Ur B p { s with st:=s.st++[x] } { X with At:=some ⟨g1,0,none⟩,ct:=c1 } a Y t n (W'.setCell ⟨p,14,none⟩ (.slice (some ⟨g1,0,none⟩) (s.st.length+1) c1))/\Below B W (W'.setCell ⟨p,14,none⟩ (.slice (some ⟨g1,0,none⟩) (s.st.length+1) c1)):=by
 have hgp:g1≠p:=by
  rcases hat with e | e
  ·exact (ho.off _ e).1
  ·have:=h.lt;omega
 have hgB:B<=g1:=by
  rcases hat with e | e
  ·exact (ho.own.lt _ e).1
  ·have:=h.lt;have:=h.ne;omega
 have e1:(s.st++[x]).length=s.st.length+1:=by simp
 have e2:tcs (s.st++[x])=tcs s.st++x.l:=by rw [tcs_app,tcs_one1]
 have hno:RR W W.heap.size (s.no.rows X.no):=no_of h.se.r (Rd.nil none)
 have hno':=hno.grownN hg (fun b e=>(ho.off b e).2.2)
 have hnp:ROff (s.no.rows X.no) p:=no_of h.so (offb_0 _ _)
 have hnn:RNw (s.no.rows X.no) B:=no_of h.sn nw_none
 have hno2:RR (W'.setCell ⟨p,14,none⟩ (.slice (some ⟨g1,0,none⟩) (s.st.length+1) c1)) W'.heap.size (s.no.rows X.no):=hno'.offp (q:=⟨p,14,none⟩) hnp _
 have htl:Tl W' W'.heap.size (.slice (some ⟨g1,0,none⟩) (s.st++[x]).length c1) (s.st++[x]):=Tl.of_own (n:=s.st.length+1) (by rw [e2,e1];exact hown)
 have hop:OffB p (s.st++[x]).length (some ⟨g1,0,none⟩):=fun _ q e=>by injection e with e;subst e;exact hgp
 have htl2:Tl (W'.setCell ⟨p,14,none⟩ (.slice (some ⟨g1,0,none⟩) (s.st.length+1) c1)) W'.heap.size (.slice (some ⟨g1,0,none⟩) (s.st++[x]).length c1) (s.st++[x]):=htl.offp (p:=⟨p,14,none⟩) (fun q e h0=>hop h0 q e) _
 have hrb:Rb (W'.setCell ⟨p,14,none⟩ (.slice (some ⟨g1,0,none⟩) (s.st.length+1) c1)) p (rcl { s with st:=s.st++[x] } { X with At:=some ⟨g1,0,none⟩,ct:=c1 } a Y t n):=by
  have k:=(h.rb.grownN hg (fun b e=>(ho.off b e).1)).set (j:=14) (by rw [rcl_len];omega) (.slice (some ⟨g1,0,none⟩) (s.st.length+1) c1)
  rw [<-e1] at k ⊢
  exact k
 have hsz:(W'.setCell ⟨p,14,none⟩ (.slice (some ⟨g1,0,none⟩) (s.st.length+1) c1)).heap.size=W'.heap.size:=by simp
 refine ⟨⟨hrb,?_,?_,?_,?_,h.ao,h.an,h.ne⟩,?_⟩
 ·rw [hsz]
  refine ⟨se_rows_of (hno2 ⟨1,X.Al,s.lk.cs.length,ics s.lk.cs⟩ (by simp [Se.rows,Se.no,Sex.no])) (fun r hr=>hno2 r (by simp only [Se.rows,Se.no,Sex.no,List.mem_cons,List.mem_append];exact .inr (.inl hr))) (hno2 ⟨7,X.Ad,s.dl.length,lcs s.dl⟩ (by simp [Se.rows,Se.no,Sex.no])) htl2.rd (hno2 ⟨3,X.D.A,s.dir.l.length,scs s.dir.l⟩ (by simp [Se.rows,Se.no,Sex.no])) (hno2 ⟨1,X.D.A2,s.dir.F.length,ics s.dir.F⟩ (by simp [Se.rows,Se.no,Sex.no])) (hno2 ⟨7,X.Ac,s.ca.length,lcs s.ca⟩ (by simp [Se.rows,Se.no,Sex.no])) (fun r hr=>hno2 r (by simp only [Se.rows,Se.no,Sex.no,List.mem_cons,List.mem_append];exact .inr (.inr (.inr hr)))),⟨h.se.ok.q,h.se.ok.qc,⟨h.se.ok.c.1,h.se.ok.c.2.1,h.se.ok.c.2.2.1,htl.len.2,h.se.ok.c.2.2.2.2⟩,h.se.ok.o⟩⟩
 ·exact se_rows_of (hnp ⟨1,X.Al,s.lk.cs.length,ics s.lk.cs⟩ (by simp [Se.rows,Se.no,Sex.no])) (fun r hr=>hnp r (by simp only [Se.rows,Se.no,Sex.no,List.mem_cons,List.mem_append];exact .inr (.inl hr))) (hnp ⟨7,X.Ad,s.dl.length,lcs s.dl⟩ (by simp [Se.rows,Se.no,Sex.no])) hop (hnp ⟨3,X.D.A,s.dir.l.length,scs s.dir.l⟩ (by simp [Se.rows,Se.no,Sex.no])) (hnp ⟨1,X.D.A2,s.dir.F.length,ics s.dir.F⟩ (by simp [Se.rows,Se.no,Sex.no])) (hnp ⟨7,X.Ac,s.ca.length,lcs s.ca⟩ (by simp [Se.rows,Se.no,Sex.no])) (fun r hr=>hnp r (by simp only [Se.rows,Se.no,Sex.no,List.mem_cons,List.mem_append];exact .inr (.inr (.inr hr))))
 ·exact se_rows_of (hnn ⟨1,X.Al,s.lk.cs.length,ics s.lk.cs⟩ (by simp [Se.rows,Se.no,Sex.no])) (fun r hr=>hnn r (by simp only [Se.rows,Se.no,Sex.no,List.mem_cons,List.mem_append];exact .inr (.inl hr))) (hnn ⟨7,X.Ad,s.dl.length,lcs s.dl⟩ (by simp [Se.rows,Se.no,Sex.no])) (fun a e=>by injection e with e;subst e;exact hgB) (hnn ⟨3,X.D.A,s.dir.l.length,scs s.dir.l⟩ (by simp [Se.rows,Se.no,Sex.no])) (hnn ⟨1,X.D.A2,s.dir.F.length,ics s.dir.F⟩ (by simp [Se.rows,Se.no,Sex.no])) (hnn ⟨7,X.Ac,s.ca.length,lcs s.ca⟩ (by simp [Se.rows,Se.no,Sex.no])) (fun r hr=>hnn r (by simp only [Se.rows,Se.no,Sex.no,List.mem_cons,List.mem_append];exact .inr (.inr (.inr hr))))
 ·rw [hsz]
  exact ((h.ar.grownN15 hg (fun b e=>(ho.off b e).2.1)).offp (q:=⟨p,14,none⟩) h.ao _)
 ·refine ((Below.refl B W).grown hg (Nat.le_trans h.ne (Nat.le_of_lt h.lt)) (fun k e=>(ho.own.lt k e).1)).setCell (p:=⟨p,14,none⟩) h.ne _
end
structure Nz (wr:World) (u:Nat) (cs:List Value) (W:World):Prop where
 bel:Below wr.heap.size wr W
 ub:Rb W u cs
 ne:wr.heap.size<=u
theorem nz_1 {wr W w4:World} {cs:List Value} (t:TypeId) (h1:Below wr.heap.size wr W) (hb:Below W.heap.size W w4):Nz wr w4.heap.size cs (w4.alloc (.cells cs.toArray t)):=
 ⟨bal (h1.trans (hb.mono h1.size)) _,Rb.start w4 cs t,(h1.trans (hb.mono h1.size)).size⟩
theorem nz_2 {wr w4:World} {zs cs:List Value} (t:TypeId) (hl:cs.length=zs.length) (hb:Below (wr.alloc (.cells zs.toArray t)).drew.heap.size (wr.alloc (.cells zs.toArray t)).drew w4):Rb w4 wr.heap.size zs/\Nz wr wr.heap.size cs (stN15 w4 wr.heap.size 0 cs):=by
 have h1:Below wr.heap.size wr (wr.alloc (.cells zs.toArray t)).drew:=((Below.refl _ _).alloc (nLR _) _).drew
 have h2:=((Rb.start wr zs t).up ((Below.refl _ _).drew)).up hb
 exact ⟨h2,stN15_below (h1.trans (hb.mono h1.size)) (nLR _) 0,h2.stN hl,nLR _⟩
structure Nya (wr:World) (u:Nat) (a' : Ar) (Z:Ax) (W:World):Prop where
 bel:Below wr.heap.size wr W
 ub:QB W u a' Z
 ar:AR W W.heap.size a' Z
 ne:wr.heap.size<=u
theorem nya_1 {wr W w4:World} {a' : Ar} {Z:Ax} (h1:Below wr.heap.size wr W) (hr:AR w4 w4.heap.size a' Z) (hb:Below W.heap.size W w4):Nya wr w4.heap.size a' Z (w4.alloc (.cells #[.slice Z.A a'.sl.length Z.c,.slice Z.A2 a'.st.length Z.c2,.int .i64 a'.ow,.int .i64 a'.cap,.slice Z.A3 a'.dl.length Z.c3,.int .i64 a'.dir.vn,.slice Z.D.A a'.dir.l.length Z.D.c,.slice Z.D.A2 a'.dir.F.length Z.D.c2,.int .i64 a'.ep,.int .i64 a'.ck,.int .i64 a'.ni] 36)):=
 ⟨bal (h1.trans (hb.mono h1.size)) _,QB.start w4 a' Z _,hr.alloc _,(h1.trans (hb.mono h1.size)).size⟩
theorem nya_2 {wr w4:World} {a' : Ar} {Z:Ax} (ho:∀ q,wr.heap.size<=q->q<(wr.alloc (.cells #[.slice none 0 0,.slice none 0 0,.int .i64 0,.int .i64 0,.slice none 0 0,.int .i64 0,.slice none 0 0,.slice none 0 0,.int .i64 0,.int .i64 0,.int .i64 0] 36)).drew.heap.size->AOff a' Z q) (hr:AR w4 w4.heap.size a' Z) (hb:Below (wr.alloc (.cells #[.slice none 0 0,.slice none 0 0,.int .i64 0,.int .i64 0,.slice none 0 0,.int .i64 0,.slice none 0 0,.slice none 0 0,.int .i64 0,.int .i64 0,.int .i64 0] 36)).drew.heap.size (wr.alloc (.cells #[.slice none 0 0,.slice none 0 0,.int .i64 0,.int .i64 0,.slice none 0 0,.int .i64 0,.slice none 0 0,.slice none 0 0,.int .i64 0,.int .i64 0,.int .i64 0] 36)).drew w4):QB w4 wr.heap.size zA zAx/\Nya wr wr.heap.size a' Z (set11 w4 wr.heap.size a' Z):=by
 have h1:Below wr.heap.size wr (wr.alloc (.cells #[.slice none 0 0,.slice none 0 0,.int .i64 0,.int .i64 0,.slice none 0 0,.int .i64 0,.slice none 0 0,.slice none 0 0,.int .i64 0,.int .i64 0,.int .i64 0] 36)).drew:=((Below.refl _ _).alloc (nLR _) _).drew
 have hq:QB w4 wr.heap.size zA zAx:=((QB.start wr zA zAx _).up ((Below.refl _ _).drew)).up hb
 have hof:=ho wr.heap.size (nLR _) (by simp)
 exact ⟨hq,set11_below (h1.trans (hb.mono h1.size)) (nLR _) a' Z,hq.set a' Z,(hr.set11 hof a' Z).more (by rw [set11_size];exact nLR _),nLR _⟩
end Go.Proofs.YtkecnihgjepfeaaGreat
namespace Go.Proofs.YtkecnihgjepfeaaGreat
open Go.RowKit
set_option linter.unusedVariables false
set_option linter.unusedSimpArgs false
set_option maxHeartbeats 8000000
set_option maxRecDepth 20000
theorem ustorestripe_any {B p:Nat} {s:Se} {X:Sex} {a:Ar} {Y:Ax} {t n:Int} (k:Nat) (x:St) (w:World) (h:Ur B p s X a Y t n w) (hw:a.Few) (hk:k<s.lk.cs.length) (hs:wi x.sq 0 1099511627776=true/\wi x.ep 0 1099511627776=true/\wi x.rd 0 1099511627776=true/\wi x.ls 0 1099511627776=true):Calls Tryz.prog 97 #[.pointer (some ⟨p,0,none⟩),.int .i64 (k:Int),.agg #[.int .i64 x.sq,.int .i64 x.ep,.int .i64 x.rd,.int .i64 x.ls]] w (UrP B p t n s (ssA a (ig s.lk.cs k) t x) (slE a (ig s.lk.cs k) t) w):=by
 obtain ⟨q,hq⟩:∃ q,q=w.heap.size:=⟨_,rfl⟩
 have HQ:=Lh (show Rb (w.alloc (.cells #[.int .i64 x.sq,.int .i64 x.ep,.int .i64 x.rd,.int .i64 x.ls] 63)) q [.int .i64 x.sq,.int .i64 x.ep,.int .i64 x.rd,.int .i64 x.ls] from by rw [hq];exact Rb.start w _ _)
 have HB:=Lh (show Below B w (w.alloc (.cells #[.int .i64 x.sq,.int .i64 x.ep,.int .i64 x.rd,.int .i64 x.ls] 63)) from (Below.refl B w).alloc (Nat.le_trans h.ne (Nat.le_of_lt h.lt)) (.cells #[.int .i64 x.sq,.int .i64 x.ep,.int .i64 x.rd,.int .i64 x.ls] 63))
 have H0:=Lh (h.up ((Below.refl _ _).alloc (nLR _) (.cells #[.int .i64 x.sq,.int .i64 x.ep,.int .i64 x.rd,.int .i64 x.ls] 63)))
 obtain ⟨TA,hTA⟩:∃ R,R=ssA a (ig s.lk.cs k) t x:=⟨_,rfl⟩
 obtain ⟨E,hE⟩:∃ R,R=slE a (ig s.lk.cs k) t:=⟨_,rfl⟩
 obtain ⟨C,hC⟩:∃ R,R=ig s.lk.cs k:=⟨_,rfl⟩
 have HT0:=Lh (fun W (k' : Ur B p s X a Y t n W)=>astorestripe_any a Y (ig s.lk.cs k) t x W k'.ar hw hs)
 have HC0:=Lh (fun W (k' : Ur B p s X a Y t n W)=>ucell_any k W k' hk)
 rw [<-hTA,<-hE,<-hC] at HT0
 rw [<-hC] at HC0
 rw [<-hTA,<-hE]
 have HQQ:=Lh hq
 clear h hw hk hs hTA hE hC
 go_enter Tryz.func97,Tryz.ntmps97
 go_upto_region 1 with (fail)
 rw [<-hq]
 clear hq
 generalize w.alloc (.cells #[.int .i64 x.sq,.int .i64 x.ep,.int .i64 x.rd,.int .i64 x.ls] 63)=wr at*
 have HT:=Lh (fun W (k:Below wr.heap.size wr W)=>HT0.out W (H0.out.up k))
 have HCA:=Lh (fun W (k:Below wr.heap.size wr W)=>HC0.out W (H0.out.up k))
 have HSK:=Lh (show ∀ W,Below wr.heap.size wr W->(KAr p a Y W/\KTk p t W)/\W.cell? ⟨q,0,none⟩=some (.int .i64 x.sq)/\W.cell? ⟨q,1,none⟩=some (.int .i64 x.ep)/\W.cell? ⟨q,2,none⟩=some (.int .i64 x.rd)/\W.cell? ⟨q,3,none⟩=some (.int .i64 x.ls) from fun W k=>⟨⟨(H0.out.up k).kar,(H0.out.up k).ktk⟩,(HQ.out.up k).c 0 _ rfl,(HQ.out.up k).c 1 _ rfl,(HQ.out.up k).c 2 _ rfl,(HQ.out.up k).c 3 _ rfl⟩)
 have HB0:=Lh (Below.refl wr.heap.size wr)
 clear HT0 HC0
 go_cut [7,8] (fun s16 s18 wx=>∃ (u:Nat) (Z:Ax),s16=.pointer (some ⟨u,0,none⟩)/\s18=.int .i64 E/\Hid (Nya wr u TA Z wx)/\Hid (Z.nw wr.heap.size))
 case first=>
  go_region_held3 (fun W=>(KAr p a Y W/\KTk p t W)/\W.cell? ⟨q,0,none⟩=some (.int .i64 x.sq)/\W.cell? ⟨q,1,none⟩=some (.int .i64 x.ep)/\W.cell? ⟨q,2,none⟩=some (.int .i64 x.rd)/\W.cell? ⟨q,3,none⟩=some (.int .i64 x.ls))
   ((refine HSK.out _ ?_;repeat' (first | with_reducible exact HB0.out | with_reducible exact HB4.out | with_reducible refine bal ?_ _ | with_reducible refine bdr ?_ | with_reducible refine bst ?_ ?_ _ | exact nLR _ | (simp;done) | (simp;omega))))
   (first | (go_at_call 85;(with_reducible refine (HCA.out _ ?hbel).mono ?_);(case hbel=>(repeat' (first | with_reducible exact HB0.out | with_reducible refine bal ?_ _ | with_reducible refine bdr ?_)));rintro e w5 ⟨rfl,rfl⟩) | (go_at_call 127;(with_reducible refine (HT.out _ ?hbel).mono ?_);(case hbel=>(repeat' (first | with_reducible exact HB0.out | with_reducible refine bal ?_ _ | with_reducible refine bdr ?_)));rintro e w4 ⟨Z,rfl,hn,hr,hb⟩;have HP:=Lh (nya_2 (fun q _ hq=>hn.off hq) hr hb).2;have HXU:=Lh (nya_2 (fun q _ hq=>hn.off hq) hr hb).1;have HZN:=Lh (hn.low (show wr.heap.size<=_ from (by simp <;> omega)));have HB4:=Lh ((bdr (bal HB0.out (.cells #[.slice none 0 0,.slice none 0 0,.int .i64 0,.int .i64 0,.slice none 0 0,.int .i64 0,.slice none 0 0,.slice none 0 0,.int .i64 0,.int .i64 0,.int .i64 0] 36))).trans (hb.mono (by simp <;> omega)));obtain ⟨z0,z1,z2,z3,z4,z5,z6,z7,z8,z9,z10⟩:=HXU.out.k;have zl:=HXU.out.lt;obtain ⟨f0,f1,f2,f3,f4,f5,f6,f7,f8,f9,f10⟩:=HXU.out.free;clear hb hr) | (go_at_call 127;(with_reducible refine (HT.out _ ?hbel).mono ?_);(case hbel=>(repeat' (first | with_reducible exact HB0.out | with_reducible refine bal ?_ _ | with_reducible refine bdr ?_)));rintro e w4 ⟨Z,rfl,hn,hr,hb⟩;have HP:=Lh (nya_1 (bdr HB0.out) hr hb);have HZN:=Lh (hn.low (show wr.heap.size<=_ from (by simp <;> omega)));have HB4:=Lh ((bdr HB0.out).trans (hb.mono (by simp <;> omega)));clear hb hr))
  all_goals
   go_wp2_with fail
   go_meet
   exact ⟨_,Z,rfl,rfl,HP,HZN⟩
 case rest=>
  obtain ⟨u,Z,rfl,rfl,HN,HZ⟩:=hcut
  have HD:=Lh (show ¬p=u from Nat.ne_of_lt (Nat.lt_of_lt_of_le H0.out.lt HN.out.ne))
  have HL:=Lh (show AOff TA Z p/\Z.nw B from ⟨HZ.out.off H0.out.lt,HZ.out.low (Nat.le_trans H0.out.ne (Nat.le_of_lt H0.out.lt))⟩)
  have HBB:=Lh (show Below B w wc from HB.out.trans (HN.out.bel.mono (Nat.le_trans H0.out.ne (Nat.le_of_lt H0.out.lt))))
  have H1:=Lh (H0.out.up HN.out.bel)
  clear HT HCA HSK HB0 HZ H0 HB HQ HQQ
  generalize wc=w1 at*
  obtain ⟨u0,u1,u2,u3,u4,u5,u6,u7,u8,u9,u10⟩:=HN.out.ub.k
  have ul:=HN.out.ub.lt
  have c26:=H1.out.rb.c 26 _ rfl
  have f26:=H1.out.rb.f 26
  have c27:=H1.out.rb.c 27 _ rfl
  have f27:=H1.out.rb.f 27
  have c28:=H1.out.rb.c 28 _ rfl
  have f28:=H1.out.rb.f 28
  have c29:=H1.out.rb.c 29 _ rfl
  have f29:=H1.out.rb.f 29
  have c30:=H1.out.rb.c 30 _ rfl
  have f30:=H1.out.rb.f 30
  have c31:=H1.out.rb.c 31 _ rfl
  have f31:=H1.out.rb.f 31
  have c32:=H1.out.rb.c 32 _ rfl
  have f32:=H1.out.rb.f 32
  have c33:=H1.out.rb.c 33 _ rfl
  have f33:=H1.out.rb.f 33
  have c34:=H1.out.rb.c 34 _ rfl
  have f34:=H1.out.rb.f 34
  have c35:=H1.out.rb.c 35 _ rfl
  have f35:=H1.out.rb.f 35
  have c36:=H1.out.rb.c 36 _ rfl
  have f36:=H1.out.rb.f 36
  have yl:=H1.out.rb.lt
  have npu:=HD.out
  have nup:¬u=p:=fun e=>npu e.symm
  have HF:=Lh (show UrP B p t n s TA E w (.returned (.int .i64 E)) (((((((((((w1.setCell ⟨p,26,none⟩ (.slice Z.A TA.sl.length Z.c)).setCell ⟨p,27,none⟩ (.slice Z.A2 TA.st.length Z.c2)).setCell ⟨p,28,none⟩ (.int .i64 TA.ow)).setCell ⟨p,29,none⟩ (.int .i64 TA.cap)).setCell ⟨p,30,none⟩ (.slice Z.A3 TA.dl.length Z.c3)).setCell ⟨p,31,none⟩ (.int .i64 TA.dir.vn)).setCell ⟨p,32,none⟩ (.slice Z.D.A TA.dir.l.length Z.D.c)).setCell ⟨p,33,none⟩ (.slice Z.D.A2 TA.dir.F.length Z.D.c2)).setCell ⟨p,34,none⟩ (.int .i64 TA.ep)).setCell ⟨p,35,none⟩ (.int .i64 TA.ck)).setCell ⟨p,36,none⟩ (.int .i64 TA.ni)) from ⟨X,Z,rfl,H1.out.arn HN.out.ar HL.out.1 HL.out.2,stN15_below (vs:=[.slice Z.A TA.sl.length Z.c,.slice Z.A2 TA.st.length Z.c2,.int .i64 TA.ow,.int .i64 TA.cap,.slice Z.A3 TA.dl.length Z.c3,.int .i64 TA.dir.vn,.slice Z.D.A TA.dir.l.length Z.D.c,.slice Z.D.A2 TA.dir.F.length Z.D.c2,.int .i64 TA.ep,.int .i64 TA.ck,.int .i64 TA.ni]) HBB.out H1.out.ne 26⟩)
  clear H1 HN HL HBB HD
  go_wp2
  go_ret
  exact HF.out
theorem uatst_any (A:Option Addr) (c:Nat) (l:List St) (k:Nat) (z:St) (w:World) (hf:Tl w w.heap.size (.slice A l.length c) l) (hk:k<l.length):Calls Tryz.prog 126 #[.slice A l.length c,.int .i64 (k:Int),z.v] w fun e w'=>e=.returned (tg l k).v/\Below w.heap.size w w':=by
 have h2:=hf.up (((Below.refl w.heap.size w).alloc (nLR _) (.cells #[.int .i64 z.sq,.int .i64 z.ep,.int .i64 z.rd,.int .i64 z.ls] 63)).alloc (by simp) (.cells #[.int .i64 0,.int .i64 0,.int .i64 0,.int .i64 0] 63))
 have HR:=Lh (show Rb ((w.alloc (.cells #[.int .i64 z.sq,.int .i64 z.ep,.int .i64 z.rd,.int .i64 z.ls] 63)).alloc (.cells #[.int .i64 0,.int .i64 0,.int .i64 0,.int .i64 0] 63)) (w.heap.size+1) [.int .i64 0,.int .i64 0,.int .i64 0,.int .i64 0] from by
  have:=Rb.start (w.alloc (.cells #[.int .i64 z.sq,.int .i64 z.ep,.int .i64 z.rd,.int .i64 z.ls] 63)) [.int .i64 0,.int .i64 0,.int .i64 0,.int .i64 0] 63
  rw [show (w.alloc (.cells #[.int .i64 z.sq,.int .i64 z.ep,.int .i64 z.rd,.int .i64 z.ls] 63)).heap.size=w.heap.size+1 by simp] at this
  exact this)
 have HBL:=Lh (((Below.refl w.heap.size w).alloc (nLR _) (.cells #[.int .i64 z.sq,.int .i64 z.ep,.int .i64 z.rd,.int .i64 z.ls] 63)).alloc (by simp) (.cells #[.int .i64 0,.int .i64 0,.int .i64 0,.int .i64 0] 63))
 obtain ⟨b,o,rfl,hb,hc0,hc1,hc2,hc3⟩:=(hf.below HBL.out).atg hk
 obtain ⟨r,hr⟩:∃ r,r=w.heap.size+1:=⟨_,rfl⟩
 have hrb:¬b=r:=by omega
 have hbr:¬r=b:=by omega
 have h1:¬(k:Int)<0:=by omega
 have h3:¬(l.length:Int)<=(k:Int):=by omega
 rw [<-hr] at HR
 have HW:=Lh (show w.heap.size<=r from by omega)
 clear hf hb h2
 generalize tg l k=M at*
 go_enter Tryz.func126,Tryz.ntmps126
 go_upto_region 1 with (fail)
 rw [<-hr]
 clear hr
 generalize (w.alloc (.cells #[.int .i64 z.sq,.int .i64 z.ep,.int .i64 z.rd,.int .i64 z.ls] 63)).alloc (.cells #[.int .i64 0,.int .i64 0,.int .i64 0,.int .i64 0] 63)=w2 at*
 have HF:=Lh (show Below w.heap.size w ((((w2.setCell ⟨r,0,none⟩ (.int .i64 M.sq)).setCell ⟨r,1,none⟩ (.int .i64 M.ep)).setCell ⟨r,2,none⟩ (.int .i64 M.rd)).setCell ⟨r,3,none⟩ (.int .i64 M.ls)) from below4 HBL.out HW.out _ _ _ _)
 have r0:=HR.out.c 0 _ rfl
 have r1:=HR.out.c 1 _ rfl
 have r2:=HR.out.c 2 _ rfl
 have r3:=HR.out.c 3 _ rfl
 have f0:=HR.out.f 0
 have f1:=HR.out.f 1
 have f2:=HR.out.f 2
 have f3:=HR.out.f 3
 have rl:=HR.out.lt
 clear HR HBL HW
 go_wp2
 exact bodyPost_ret (v:=M.v) (by simp only [results,Tryz.results126];go_simp <;> rfl) rfl ⟨rfl,HF.out⟩
theorem ustripeat_any {B p:Nat} {s:Se} {X:Sex} {a:Ar} {Y:Ax} {t n:Int} (k:Nat) (w:World) (h:Ur B p s X a Y t n w) (hk:k<s.st.length):Calls Tryz.prog 95 #[.pointer (some ⟨p,0,none⟩),.int .i64 (k:Int)] w fun e w'=>e=.returned (tg s.st k).v/\Below w.heap.size w w':=by
 have HA:=Lh (fun W (k' : Ur B p s X a Y t n W) z=>uatst_any X.At X.ct s.st k z W k'.se.stripes hk)
 have HB:=Lh ((Below.refl w.heap.size w).alloc (nLR _) (.cells #[.int .i64 0,.int .i64 0,.int .i64 0,.int .i64 0] 63))
 have H0:=Lh (h.up HB.out)
 obtain ⟨r,hr⟩:∃ r,r=w.heap.size:=⟨_,rfl⟩
 have HR:=Lh (show Rb (w.alloc (.cells #[.int .i64 0,.int .i64 0,.int .i64 0,.int .i64 0] 63)) r [.int .i64 0,.int .i64 0,.int .i64 0,.int .i64 0] from by rw [hr];exact Rb.start w _ _)
 have HW:=Lh (show w.heap.size<=r by omega)
 clear h hk
 generalize tg s.st k=M at*
 go_enter Tryz.func95,Tryz.ntmps95
 go_upto_region 1 with (fail)
 rw [<-hr]
 clear hr
 generalize w.alloc (.cells #[.int .i64 0,.int .i64 0,.int .i64 0,.int .i64 0] 63)=w1 at*
 have c14:=H0.out.rb.c 14 _ rfl
 have yl:=H0.out.rb.lt
 go_wp2_with fail
 clear c14 yl
 refine (HA.out _ H0.out ⟨-1,0,0,0⟩).mono ?_
 rintro e w2 ⟨rfl,hb⟩
 have HF:=Lh (show Below w.heap.size w ((((w2.setCell ⟨r,0,none⟩ (.int .i64 M.sq)).setCell ⟨r,1,none⟩ (.int .i64 M.ep)).setCell ⟨r,2,none⟩ (.int .i64 M.rd)).setCell ⟨r,3,none⟩ (.int .i64 M.ls)) from below4 (HB.out.trans (hb.mono HB.out.size)) HW.out _ _ _ _)
 have HR2:=Lh (HR.out.up hb)
 have r0:=HR2.out.c 0 _ rfl
 have r1:=HR2.out.c 1 _ rfl
 have r2:=HR2.out.c 2 _ rfl
 have r3:=HR2.out.c 3 _ rfl
 have f0:=HR2.out.f 0
 have f1:=HR2.out.f 1
 have f2:=HR2.out.f 2
 have f3:=HR2.out.f 3
 have rl:=HR2.out.lt
 clear hb HR HR2 HB HW HA H0
 go_wp2
 exact bodyPost_ret (v:=M.v) (by simp only [results,Tryz.results95];go_simp <;> rfl) rfl ⟨rfl,HF.out⟩
end Go.Proofs.YtkecnihgjepfeaaGreat
