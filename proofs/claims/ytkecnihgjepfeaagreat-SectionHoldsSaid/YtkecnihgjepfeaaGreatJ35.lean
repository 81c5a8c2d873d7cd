/- What is proved here: parts of the proof: Jkl Gst Gpo Ua Ub Uc. -/
import Derived.Test.YtkecnihgjepfeaaGreatJ34
/- Plain: what Step of a locker does to an arena whose owners are known. -/
namespace Go.Proofs.YtkecnihgjepfeaaGreat
open Go.RowKit
set_option linter.unusedVariables false
set_option linter.unusedSimpArgs false
set_option maxHeartbeats 8000000
set_option maxRecDepth 20000
theorem own_set13 {a:Ar} {n x:Nat} {v:Int} (hn:n<=a.sl.length) (hx:x<=a.sl.length):(a.setOwn n v).own x=(if x=n then v else a.own x)/\(a.setOwn n v).sl.length=a.sl.length:=by
 by_cases e:n=a.sl.length
 ·have e1:a.setOwn n v=⟨a.sl,a.st,v,a.cap,a.dl,a.dir,a.ep,a.ck,a.ni⟩:=if_pos e
  rw [e1]
  refine ⟨?_,rfl⟩
  unfold Ar.own
  by_cases h:x=a.sl.length
  ·rw [if_pos h,if_pos (by omega)]
  ·rw [if_neg h,if_neg (by omega),if_neg h]
 ·have e1:a.setOwn n v=⟨a.sl.set n ⟨v,(og a.sl n).sh⟩,a.st,a.ow,a.cap,a.dl,a.dir,a.ep,a.ck,a.ni⟩:=if_neg e
  have hl:(a.setOwn n v).sl.length=a.sl.length:=by rw [e1];simp
  refine ⟨?_,hl⟩
  unfold Ar.own
  rw [hl,e1]
  by_cases h:x=a.sl.length
  ·rw [if_pos h,if_neg (by omega),if_pos h]
  ·rw [if_neg h,if_neg h,og_get (by simp;omega)]
   by_cases hxn:x=n
   ·subst hxn
    rw [if_pos rfl]
    simp only [List.getElem_set_self]
   ·rw [if_neg hxn]
    simp only [List.getElem_set_ne (fun e=>hxn e.symm)]
    rw [og_get (show x<a.sl.length by omega)]
section
variable {a:Ar} {l:Lk} {t:Int} {c:Nat}
theorem st_acq (p0:l.ph=0) (hh:l.hv=(l.h:Int)) (hl:l.h<l.cs.length) (hc:ig l.cs l.h=(c:Int)) (hn:c<=a.sl.length) (t1:1<=t) (t2:t<=200) :
  stE13 a l t=0/\stA13 a l t=a.setOwn c (if a.own c=0 then t else a.own c)/\stL13 a l t=aqL l (decide (a.own c=0)):=by
 have e:ctF l.cs l.hv=(c:Int):=by rw [hh,ctF_nat hl,hc]
 have k:=lk_yes hn (wi_true t1 t2)
 have e0:aqE a l t=0:=by unfold aqE;rw [e,k]
 refine ⟨by unfold stE13;rw [if_pos p0,e0],?_,?_⟩
 ·unfold stA13
  rw [if_pos p0,e]
  unfold tlA
  rw [if_pos k]
  rfl
 ·unfold stL13
  rw [if_pos p0]
  unfold aqR
  rw [if_pos e0,e]
  unfold tlB
  rw [k]
  simp
theorem st_rel (p:l.ph=1\/l.ph=4) (hh:l.hv=(l.h:Int)) (h1:1<=l.h) (hl:l.h<=l.cs.length) (hc:ig l.cs (l.h - 1)=(c:Int)) (hn:c<=a.sl.length) (t1:1<=t) (t2:t<=200) (ho:a.own c=t) :
  stE13 a l t=0/\stA13 a l t=a.setOwn c 0/\stL13 a l t=gbL l:=by
 have e:ctF l.cs (l.hv - 1)=(c:Int):=by rw [show l.hv - 1=((l.h - 1:Nat):Int) by omega,ctF_nat (by omega),hc]
 have k:=lk_yes hn (wi_true t1 t2)
 have e0:owE a (c:Int) t=0:=by unfold owE;rw [if_pos k];show (if a.own c=t then (0:Int) else 13)=0;rw [if_pos ho]
 have p0:¬l.ph=0:=by omega
 refine ⟨by unfold stE13;rw [if_neg p0,if_pos p];unfold gbE;rw [e,e0],?_,?_⟩
 ·unfold stA13
  rw [if_neg p0,if_pos p,e]
  unfold ulA
  rw [if_pos e0]
  rfl
 ·unfold stL13
  rw [if_neg p0,if_pos p]
  unfold gbR gbE
  rw [e,if_pos e0]
end
end Go.Proofs.YtkecnihgjepfeaaGreat
/- Plain: what section.Step and Decide give, phase by phase (chapter 15), when no called function has an error. -/
namespace Go.Proofs.YtkecnihgjepfeaaGreat
open Go.RowKit
set_option linter.unusedVariables false
set_option linter.unusedSimpArgs false
set_option maxHeartbeats 8000000
set_option maxRecDepth 20000
def Se.ntr (s:Se) (ph:Int):Se:={ s with ph:=ph,at_:=0 }
def Se.lkd (s:Se) (l:Lk):Se:={ s with lk:=l }
def sgS (l:List Sh) (k:Nat):Sh:=l.getD k zS
def unP (s:Se):Ou:=⟨s.sh,s.dc,s.dl,[],[],[]⟩
end Go.Proofs.YtkecnihgjepfeaaGreat
/- Plain: a section with other lists in one place reads so; what section's functions leave. -/
namespace Go.Proofs.YtkecnihgjepfeaaGreat
open Go.RowKit
set_option linter.unusedVariables false
set_option linter.unusedSimpArgs false
set_option maxHeartbeats 8000000
set_option maxRecDepth 20000
section
variable {W:World} {B:Nat} {s:Se} {X:Sex}
theorem se_mem {r:Rw15} (hr:r∈s.rows X):r=⟨1,X.Al,s.lk.cs.length,ics s.lk.cs⟩\/r∈hRows X.A X.q\/r=⟨7,X.Ad,s.dl.length,lcs s.dl⟩\/r=⟨4,X.At,s.st.length,tcs s.st⟩\/r=⟨3,X.D.A,s.dir.l.length,scs s.dir.l⟩\/r=⟨1,X.D.A2,s.dir.F.length,ics s.dir.F⟩\/r=⟨7,X.Ac,s.ca.length,lcs s.ca⟩\/r∈s.o.rows X.o:=by
 simp only [Se.rows,List.mem_cons,List.mem_append,List.not_mem_nil,or_false] at hr
 rcases hr with h | h | (h | h | h | h | h) | h
 ·exact .inl h
 ·exact .inr (.inl h)
 ·exact .inr (.inr (.inl h))
 ·exact .inr (.inr (.inr (.inl h)))
 ·exact .inr (.inr (.inr (.inr (.inl h))))
 ·exact .inr (.inr (.inr (.inr (.inr (.inl h)))))
 ·exact .inr (.inr (.inr (.inr (.inr (.inr (.inl h))))))
 ·exact .inr (.inr (.inr (.inr (.inr (.inr (.inr h))))))
theorem se_rows_of {P:Rw15->Prop} (h1:P ⟨1,X.Al,s.lk.cs.length,ics s.lk.cs⟩) (h2:∀ r∈hRows X.A X.q,P r) (h3:P ⟨7,X.Ad,s.dl.length,lcs s.dl⟩) (h4:P ⟨4,X.At,s.st.length,tcs s.st⟩) (h5:P ⟨3,X.D.A,s.dir.l.length,scs s.dir.l⟩) (h6:P ⟨1,X.D.A2,s.dir.F.length,ics s.dir.F⟩) (h7:P ⟨7,X.Ac,s.ca.length,lcs s.ca⟩) (h8:∀ r∈s.o.rows X.o,P r):∀ r∈s.rows X,P r:=fun r hr=>by
 rcases se_mem hr with rfl | h | rfl | rfl | rfl | rfl | rfl | h
 ·exact h1
 ·exact h2 r h
 ·exact h3
 ·exact h4
 ·exact h5
 ·exact h6
 ·exact h7
 ·exact h8 r h
theorem SeR.setLock (h:SeR W B s X) {l:Lk} {A:Option Addr} {c:Nat} (hf:Fl W B (.slice A l.cs.length c) l.cs):SeR W B (s.lkd l) { X with Al:=A,cl:=c }:=
 ⟨se_rows_of hf.rd h.shards h.dead.rd h.stripes.rd h.dr.pl.rd h.dr.fl.rd h.carry.rd h.out.r,⟨h.ok.q,h.ok.qc,⟨hf.len.2,h.ok.c.2⟩,h.ok.o⟩⟩
theorem SeR.setDead (h:SeR W B s X) {n:Int} {l:List Msg} {A:Option Addr} {c:Nat} (hf:Ls W B (.slice A l.length c) l):SeR W B { s with dc:=n,dl:=l } { X with Ad:=A,cd:=c }:=
 ⟨se_rows_of h.lock.rd h.shards hf.rd h.stripes.rd h.dr.pl.rd h.dr.fl.rd h.carry.rd h.out.r,⟨h.ok.q,h.ok.qc,⟨h.ok.c.1,h.ok.c.2.1,hf.len.2,h.ok.c.2.2.2⟩,h.ok.o⟩⟩
theorem SeR.setCarry (h:SeR W B s X) {l:List Msg} {A:Option Addr} {c:Nat} (hf:Ls W B (.slice A l.length c) l):SeR W B { s with ca:=l } { X with Ac:=A,cc:=c }:=
 ⟨se_rows_of h.lock.rd h.shards h.dead.rd h.stripes.rd h.dr.pl.rd h.dr.fl.rd hf.rd h.out.r,⟨h.ok.q,h.ok.qc,⟨h.ok.c.1,h.ok.c.2.1,h.ok.c.2.2.1,h.ok.c.2.2.2.1,h.ok.c.2.2.2.2.1,h.ok.c.2.2.2.2.2.1,hf.len.2⟩,h.ok.o⟩⟩
theorem SeR.setOut (h:SeR W B s X) {o:Ou} {Y:Oux} (hf:OuR W B o Y):SeR W B { s with o:=o } { X with o:=Y }:=
 ⟨se_rows_of h.lock.rd h.shards h.dead.rd h.stripes.rd h.dr.pl.rd h.dr.fl.rd h.carry.rd hf.r,⟨h.ok.q,h.ok.qc,h.ok.c,hf.ok⟩⟩
theorem SeR.num (h:SeR W B s X) (ph at_:Int) (sn:Sn) (lim:Int):SeR W B { s with ph:=ph,at_:=at_,sn:=sn,lim:=lim } X:=⟨h.r,⟨h.ok.q,h.ok.qc,h.ok.c,h.ok.o⟩⟩
end
end Go.Proofs.YtkecnihgjepfeaaGreat
/- Plain: the box of a running section: its cells, its lists, what stores leave. -/
namespace Go.Proofs.YtkecnihgjepfeaaGreat
open Go.RowKit
set_option linter.unusedVariables false
set_option linter.unusedSimpArgs false
set_option maxHeartbeats 8000000
set_option maxRecDepth 20000
def rcl (s:Se) (X:Sex) (a:Ar) (Y:Ax) (t n:Int):List Value:=[.int .i64 s.ph,.int .i64 s.at_,.slice X.Al s.lk.cs.length X.cl,.int .i64 s.lk.ph,.int .i64 s.lk.hv,.int .i64 s.lk.tr,.int .i64 s.lk.wt,.int .i64 s.sn.ph,.int .i64 s.sn.ep,.int .i64 s.sn.ck,.int .i64 s.sn.sp,.slice X.A s.sh.length X.c,.int .i64 s.dc,.slice X.Ad s.dl.length X.cd,.slice X.At s.st.length X.ct,.int .i64 s.dir.vn,.slice X.D.A s.dir.l.length X.D.c,.slice X.D.A2 s.dir.F.length X.D.c2,.slice X.o.A s.o.sh.length X.o.c,.int .i64 s.o.dc,.slice X.o.Ad s.o.dl.length X.o.cd,.slice X.o.Ao s.o.od.length X.o.co,.slice X.o.Ac s.o.ca.length X.o.cc,.slice X.o.Ae s.o.ed.length X.o.ce,.int .i64 s.lim,.slice X.Ac s.ca.length X.cc,.slice Y.A a.sl.length Y.c,.slice Y.A2 a.st.length Y.c2,.int .i64 a.ow,.int .i64 a.cap,.slice Y.A3 a.dl.length Y.c3,.int .i64 a.dir.vn,.slice Y.D.A a.dir.l.length Y.D.c,.slice Y.D.A2 a.dir.F.length Y.D.c2,.int .i64 a.ep,.int .i64 a.ck,.int .i64 a.ni,.int .i64 t,.int .i64 n]
theorem rcl_len {s:Se} {X:Sex} {a:Ar} {Y:Ax} {t n:Int}:(rcl s X a Y t n).length=39:=rfl
structure Ur (B p:Nat) (s:Se) (X:Sex) (a:Ar) (Y:Ax) (t n:Int) (W:World):Prop where
 rb:Rb W p (rcl s X a Y t n)
 se:SeR W W.heap.size s X
 so:ROff (s.rows X) p
 sn:RNw (s.rows X) B
 ar:AR W W.heap.size a Y
 ao:AOff a Y p
 an:Y.nw B
 ne:B<=p
theorem AR.stN15 {W:World} {B p:Nat} {a:Ar} {Y:Ax} {vs:List Value} (h:AR W B a Y) (ho:AOff a Y p) (o:Nat):AR (stN15 W p o vs) B a Y:=by
 induction vs generalizing W o with
 | nil=>exact h
 | cons v vs ih=>exact ih (h.offp (q:=⟨p,o,none⟩) ho v) (o+1)
theorem Fl.stN15 {W:World} {B p n c:Nat} {A:Option Addr} {l:List Int} {vs:List Value} (h:Fl W B (.slice A n c) l) (ho:OffB p n A) (o:Nat):Fl (stN15 W p o vs) B (.slice A n c) l:=by
 induction vs generalizing W o with
 | nil=>exact h
 | cons v vs ih=>exact ih (h.offb (p:=⟨p,o,none⟩) ho v) (o+1)
section
variable {W W' : World} {B p:Nat} {s s' : Se} {X X' : Sex} {a a' : Ar} {Y Y' : Ax} {t n:Int}
theorem Ur.up (h:Ur B p s X a Y t n W) (hb:Below W.heap.size W W'):Ur B p s X a Y t n W':=⟨h.rb.up hb,h.se.up hb,h.so,h.sn,h.ar.up hb,h.ao,h.an,h.ne⟩
theorem Ur.lt (h:Ur B p s X a Y t n W):p<W.heap.size:=h.rb.lt
theorem Ur.gen (h:Ur B p s X a Y t n W) (o:Nat) (vs:List Value) (hl:o+vs.length<=39) (hr:(rcl s X a Y t n).take o++vs++(rcl s X a Y t n).drop (o+vs.length)=rcl s' X' a' Y' t n) (hse:SeR W W.heap.size s' X') (hso:ROff (s'.rows X') p) (hsn:RNw (s'.rows X') B) (har:AR W W.heap.size a' Y') (hao:AOff a' Y' p) (han:Y'.nw B):Ur B p s' X' a' Y' t n (stN15 W p o vs):=by
 have h1:=rb_stN_at (vs:=vs) h.rb o (by rw [rcl_len];exact hl)
 rw [hr] at h1
 refine ⟨h1,?_,hso,hsn,?_,hao,han,h.ne⟩
 ·rw [stN15_size];exact hse.stN hso
 ·rw [stN15_size];exact har.stN15 hao o
theorem Ur.at1 (h:Ur B p s X a Y t n W) (x:Int):Ur B p { s with at_:=x } X a Y t n (W.setCell ⟨p,1,none⟩ (.int .i64 x)):=
 h.gen 1 [.int .i64 x] (by simp) rfl (h.se.num s.ph x s.sn s.lim) h.so h.sn h.ar h.ao h.an
theorem Ur.ntr (h:Ur B p s X a Y t n W) (x:Int):Ur B p (s.ntr x) X a Y t n ((W.setCell ⟨p,0,none⟩ (.int .i64 x)).setCell ⟨p,1,none⟩ (.int .i64 0)):=
 h.gen 0 [.int .i64 x,.int .i64 0] (by simp) rfl (h.se.num x 0 s.sn s.lim) h.so h.sn h.ar h.ao h.an
theorem Ur.snp (h:Ur B p s X a Y t n W) (x:Sn):Ur B p { s with sn:=x } X a Y t n ((((W.setCell ⟨p,7,none⟩ (.int .i64 x.ph)).setCell ⟨p,8,none⟩ (.int .i64 x.ep)).setCell ⟨p,9,none⟩ (.int .i64 x.ck)).setCell ⟨p,10,none⟩ (.int .i64 x.sp)):=
 h.gen 7 [.int .i64 x.ph,.int .i64 x.ep,.int .i64 x.ck,.int .i64 x.sp] (by simp) rfl (h.se.num s.ph s.at_ x s.lim) h.so h.sn h.ar h.ao h.an
theorem Ur.arn (h:Ur B p s X a Y t n W) (har:AR W W.heap.size a' Y') (hao:AOff a' Y' p) (han:Y'.nw B):Ur B p s X a' Y' t n (((((((((((W.setCell ⟨p,26,none⟩ (.slice Y'.A a'.sl.length Y'.c)).setCell ⟨p,27,none⟩ (.slice Y'.A2 a'.st.length Y'.c2)).setCell ⟨p,28,none⟩ (.int .i64 a'.ow)).setCell ⟨p,29,none⟩ (.int .i64 a'.cap)).setCell ⟨p,30,none⟩ (.slice Y'.A3 a'.dl.length Y'.c3)).setCell ⟨p,31,none⟩ (.int .i64 a'.dir.vn)).setCell ⟨p,32,none⟩ (.slice Y'.D.A a'.dir.l.length Y'.D.c)).setCell ⟨p,33,none⟩ (.slice Y'.D.A2 a'.dir.F.length Y'.D.c2)).setCell ⟨p,34,none⟩ (.int .i64 a'.ep)).setCell ⟨p,35,none⟩ (.int .i64 a'.ck)).setCell ⟨p,36,none⟩ (.int .i64 a'.ni)):=
 h.gen 26 [.slice Y'.A a'.sl.length Y'.c,.slice Y'.A2 a'.st.length Y'.c2,.int .i64 a'.ow,.int .i64 a'.cap,.slice Y'.A3 a'.dl.length Y'.c3,.int .i64 a'.dir.vn,.slice Y'.D.A a'.dir.l.length Y'.D.c,.slice Y'.D.A2 a'.dir.F.length Y'.D.c2,.int .i64 a'.ep,.int .i64 a'.ck,.int .i64 a'.ni] (by simp) rfl h.se h.so h.sn har hao han
theorem Ur.lok (h:Ur B p s X a Y t n W) {l:Lk} {A:Option Addr} {c:Nat} (hf:Fl W W.heap.size (.slice A l.cs.length c) l.cs) (ho:OffB p l.cs.length A) (hn:Nw B A):Ur B p (s.lkd l) { X with Al:=A,cl:=c } a Y t n (((((W.setCell ⟨p,2,none⟩ (.slice A l.cs.length c)).setCell ⟨p,3,none⟩ (.int .i64 l.ph)).setCell ⟨p,4,none⟩ (.int .i64 l.hv)).setCell ⟨p,5,none⟩ (.int .i64 l.tr)).setCell ⟨p,6,none⟩ (.int .i64 l.wt)):=
 h.gen 2 [.slice A l.cs.length c,.int .i64 l.ph,.int .i64 l.hv,.int .i64 l.tr,.int .i64 l.wt] (by simp) rfl (h.se.setLock hf) (se_rows_of ho (h.so.sub fun r hr=>by simp only [Se.rows,List.mem_cons,List.mem_append];exact .inr (.inl hr)) (h.so ⟨7,X.Ad,s.dl.length,lcs s.dl⟩ (by simp [Se.rows])) (h.so ⟨4,X.At,s.st.length,tcs s.st⟩ (by simp [Se.rows])) (h.so ⟨3,X.D.A,s.dir.l.length,scs s.dir.l⟩ (by simp [Se.rows])) (h.so ⟨1,X.D.A2,s.dir.F.length,ics s.dir.F⟩ (by simp [Se.rows])) (h.so ⟨7,X.Ac,s.ca.length,lcs s.ca⟩ (by simp [Se.rows])) (h.so.sub fun r hr=>by simp only [Se.rows,List.mem_cons,List.mem_append];exact .inr (.inr (.inr hr)))) (se_rows_of hn (h.sn.sub fun r hr=>by simp only [Se.rows,List.mem_cons,List.mem_append];exact .inr (.inl hr)) (h.sn ⟨7,X.Ad,s.dl.length,lcs s.dl⟩ (by simp [Se.rows])) (h.sn ⟨4,X.At,s.st.length,tcs s.st⟩ (by simp [Se.rows])) (h.sn ⟨3,X.D.A,s.dir.l.length,scs s.dir.l⟩ (by simp [Se.rows])) (h.sn ⟨1,X.D.A2,s.dir.F.length,ics s.dir.F⟩ (by simp [Se.rows])) (h.sn ⟨7,X.Ac,s.ca.length,lcs s.ca⟩ (by simp [Se.rows])) (h.sn.sub fun r hr=>by simp only [Se.rows,List.mem_cons,List.mem_append];exact .inr (.inr (.inr hr)))) h.ar h.ao h.an
theorem Ur.dea (h:Ur B p s X a Y t n W) {x:Int} {l:List Msg} {A:Option Addr} {c:Nat} (hf:Ls W W.heap.size (.slice A l.length c) l) (ho:OffB p l.length A) (hn:Nw B A):Ur B p { s with dc:=x,dl:=l } { X with Ad:=A,cd:=c } a Y t n ((W.setCell ⟨p,12,none⟩ (.int .i64 x)).setCell ⟨p,13,none⟩ (.slice A l.length c)):=
 h.gen 12 [.int .i64 x,.slice A l.length c] (by simp) rfl (h.se.setDead hf) (se_rows_of (h.so ⟨1,X.Al,s.lk.cs.length,ics s.lk.cs⟩ (by simp [Se.rows])) (h.so.sub fun r hr=>by simp only [Se.rows,List.mem_cons,List.mem_append];exact .inr (.inl hr)) ho (h.so ⟨4,X.At,s.st.length,tcs s.st⟩ (by simp [Se.rows])) (h.so ⟨3,X.D.A,s.dir.l.length,scs s.dir.l⟩ (by simp [Se.rows])) (h.so ⟨1,X.D.A2,s.dir.F.length,ics s.dir.F⟩ (by simp [Se.rows])) (h.so ⟨7,X.Ac,s.ca.length,lcs s.ca⟩ (by simp [Se.rows])) (h.so.sub fun r hr=>by simp only [Se.rows,List.mem_cons,List.mem_append];exact .inr (.inr (.inr hr)))) (se_rows_of (h.sn ⟨1,X.Al,s.lk.cs.length,ics s.lk.cs⟩ (by simp [Se.rows])) (h.sn.sub fun r hr=>by simp only [Se.rows,List.mem_cons,List.mem_append];exact .inr (.inl hr)) hn (h.sn ⟨4,X.At,s.st.length,tcs s.st⟩ (by simp [Se.rows])) (h.sn ⟨3,X.D.A,s.dir.l.length,scs s.dir.l⟩ (by simp [Se.rows])) (h.sn ⟨1,X.D.A2,s.dir.F.length,ics s.dir.F⟩ (by simp [Se.rows])) (h.sn ⟨7,X.Ac,s.ca.length,lcs s.ca⟩ (by simp [Se.rows])) (h.sn.sub fun r hr=>by simp only [Se.rows,List.mem_cons,List.mem_append];exact .inr (.inr (.inr hr)))) h.ar h.ao h.an
theorem Ur.car (h:Ur B p s X a Y t n W) {l:List Msg} {A:Option Addr} {c:Nat} (hf:Ls W W.heap.size (.slice A l.length c) l) (ho:OffB p l.length A) (hn:Nw B A):Ur B p { s with ca:=l } { X with Ac:=A,cc:=c } a Y t n (W.setCell ⟨p,25,none⟩ (.slice A l.length c)):=
 h.gen 25 [.slice A l.length c] (by simp) rfl (h.se.setCarry hf) (se_rows_of (h.so ⟨1,X.Al,s.lk.cs.length,ics s.lk.cs⟩ (by simp [Se.rows])) (h.so.sub fun r hr=>by simp only [Se.rows,List.mem_cons,List.mem_append];exact .inr (.inl hr)) (h.so ⟨7,X.Ad,s.dl.length,lcs s.dl⟩ (by simp [Se.rows])) (h.so ⟨4,X.At,s.st.length,tcs s.st⟩ (by simp [Se.rows])) (h.so ⟨3,X.D.A,s.dir.l.length,scs s.dir.l⟩ (by simp [Se.rows])) (h.so ⟨1,X.D.A2,s.dir.F.length,ics s.dir.F⟩ (by simp [Se.rows])) ho (h.so.sub fun r hr=>by simp only [Se.rows,List.mem_cons,List.mem_append];exact .inr (.inr (.inr hr)))) (se_rows_of (h.sn ⟨1,X.Al,s.lk.cs.length,ics s.lk.cs⟩ (by simp [Se.rows])) (h.sn.sub fun r hr=>by simp only [Se.rows,List.mem_cons,List.mem_append];exact .inr (.inl hr)) (h.sn ⟨7,X.Ad,s.dl.length,lcs s.dl⟩ (by simp [Se.rows])) (h.sn ⟨4,X.At,s.st.length,tcs s.st⟩ (by simp [Se.rows])) (h.sn ⟨3,X.D.A,s.dir.l.length,scs s.dir.l⟩ (by simp [Se.rows])) (h.sn ⟨1,X.D.A2,s.dir.F.length,ics s.dir.F⟩ (by simp [Se.rows])) hn (h.sn.sub fun r hr=>by simp only [Se.rows,List.mem_cons,List.mem_append];exact .inr (.inr (.inr hr)))) h.ar h.ao h.an
theorem Ur.outc (h:Ur B p s X a Y t n W) {o:Ou} {Z:Oux} (hf:OuR W W.heap.size o Z) (ho:ROff (o.rows Z) p) (hn:RNw (o.rows Z) B):Ur B p { s with o:=o } { X with o:=Z } a Y t n ((((((W.setCell ⟨p,18,none⟩ (.slice Z.A o.sh.length Z.c)).setCell ⟨p,19,none⟩ (.int .i64 o.dc)).setCell ⟨p,20,none⟩ (.slice Z.Ad o.dl.length Z.cd)).setCell ⟨p,21,none⟩ (.slice Z.Ao o.od.length Z.co)).setCell ⟨p,22,none⟩ (.slice Z.Ac o.ca.length Z.cc)).setCell ⟨p,23,none⟩ (.slice Z.Ae o.ed.length Z.ce)):=
 h.gen 18 [.slice Z.A o.sh.length Z.c,.int .i64 o.dc,.slice Z.Ad o.dl.length Z.cd,.slice Z.Ao o.od.length Z.co,.slice Z.Ac o.ca.length Z.cc,.slice Z.Ae o.ed.length Z.ce] (by simp) rfl (h.se.setOut hf) (se_rows_of (h.so ⟨1,X.Al,s.lk.cs.length,ics s.lk.cs⟩ (by simp [Se.rows])) (h.so.sub fun r hr=>by simp only [Se.rows,List.mem_cons,List.mem_append];exact .inr (.inl hr)) (h.so ⟨7,X.Ad,s.dl.length,lcs s.dl⟩ (by simp [Se.rows])) (h.so ⟨4,X.At,s.st.length,tcs s.st⟩ (by simp [Se.rows])) (h.so ⟨3,X.D.A,s.dir.l.length,scs s.dir.l⟩ (by simp [Se.rows])) (h.so ⟨1,X.D.A2,s.dir.F.length,ics s.dir.F⟩ (by simp [Se.rows])) (h.so ⟨7,X.Ac,s.ca.length,lcs s.ca⟩ (by simp [Se.rows])) ho) (se_rows_of (h.sn ⟨1,X.Al,s.lk.cs.length,ics s.lk.cs⟩ (by simp [Se.rows])) (h.sn.sub fun r hr=>by simp only [Se.rows,List.mem_cons,List.mem_append];exact .inr (.inl hr)) (h.sn ⟨7,X.Ad,s.dl.length,lcs s.dl⟩ (by simp [Se.rows])) (h.sn ⟨4,X.At,s.st.length,tcs s.st⟩ (by simp [Se.rows])) (h.sn ⟨3,X.D.A,s.dir.l.length,scs s.dir.l⟩ (by simp [Se.rows])) (h.sn ⟨1,X.D.A2,s.dir.F.length,ics s.dir.F⟩ (by simp [Se.rows])) (h.sn ⟨7,X.Ac,s.ca.length,lcs s.ca⟩ (by simp [Se.rows])) hn) h.ar h.ao h.an
end
def UrP (B p:Nat) (t n:Int) (s:Se) (a:Ar) (x:Int) (w:World) (e:Ending) (w' : World):Prop:=∃ X Y,e=.returned (.int .i64 x)/\Ur B p s X a Y t n w'/\Below B w w'
theorem Ur.rp {B p:Nat} {s:Se} {X:Sex} {a:Ar} {Y:Ax} {t n:Int} {W:World} (h:Ur B p s X a Y t n W) {w:World} (hb:Below B w W) (x:Int):UrP B p t n s a x w (.returned (.int .i64 x)) W:=⟨X,Y,rfl,h,hb⟩
abbrev zSl16:List Value:=[.int .i64 0,.int .i64 0,.slice none 0 0,.int .i64 0,.int .i64 0,.int .i64 0,.int .i64 0,.int .i64 0,.int .i64 0,.int .i64 0,.int .i64 0,.slice none 0 0,.int .i64 0,.slice none 0 0,.slice none 0 0,.int .i64 0,.slice none 0 0,.slice none 0 0,.slice none 0 0,.int .i64 0,.slice none 0 0,.slice none 0 0,.slice none 0 0,.slice none 0 0,.int .i64 0,.slice none 0 0]
abbrev zSo16:Obj:=.cells zSl16.toArray 53
abbrev zAl16:List Value:=[.slice none 0 0,.slice none 0 0,.int .i64 0,.int .i64 0,.slice none 0 0,.int .i64 0,.slice none 0 0,.slice none 0 0,.int .i64 0,.int .i64 0,.int .i64 0]
abbrev zAo16:Obj:=.cells zAl16.toArray 36
abbrev zOl16:List Value:=[.slice none 0 0,.int .i64 0,.slice none 0 0,.slice none 0 0,.slice none 0 0,.slice none 0 0]
abbrev zOo16:Obj:=.cells zOl16.toArray 51
end Go.Proofs.YtkecnihgjepfeaaGreat
namespace Go.Proofs.YtkecnihgjepfeaaGreat
open Go.RowKit
set_option linter.unusedVariables false
set_option linter.unusedSimpArgs false
set_option maxHeartbeats 8000000
set_option maxRecDepth 20000
theorem uatint_any (A:Option Addr) (c:Nat) (l:List Int) (k:Nat) (z:Int) (w:World) (hf:Fl w w.heap.size (.slice A l.length c) l) (hk:k<l.length):Calls Tryz.prog 91 #[.slice A l.length c,.int .i64 (k:Int),.int .i64 z] w fun e w'=>e=.returned (.int .i64 (ig l k))/\w=w':=by
 obtain ⟨b,o,rfl,hb,hc⟩:=hf.atg hk
 have h1:¬(k:Int)<0:=by omega
 have h2:¬(l.length:Int)<=(k:Int):=by omega
 clear hf hb
 go_enter Tryz.func91,Tryz.ntmps91
 go_wp2
 go_ret
 exact ⟨rfl,rfl⟩
theorem uisdead_any {B p:Nat} {s:Se} {X:Sex} {a:Ar} {Y:Ax} {t n:Int} (x:Int) (w:World) (h:Ur B p s X a Y t n w):Calls Tryz.prog 86 #[.pointer (some ⟨p,0,none⟩),.int .i64 x] w fun e w'=>e=.returned (.bool (x==(a.sl.length:Int)))/\w=w':=by
 have H0:=Lh h
 clear h
 go_enter Tryz.func86,Tryz.ntmps86
 have c26:=H0.out.rb.c 26 _ rfl
 have yl:=H0.out.rb.lt
 go_wp2
 go_ret
 exact ⟨rfl,rfl⟩
theorem ucell_any {B p:Nat} {s:Se} {X:Sex} {a:Ar} {Y:Ax} {t n:Int} (k:Nat) (w:World) (h:Ur B p s X a Y t n w) (hk:k<s.lk.cs.length):Calls Tryz.prog 85 #[.pointer (some ⟨p,0,none⟩),.int .i64 (k:Int)] w fun e w'=>e=.returned (.int .i64 (ig s.lk.cs k))/\w=w':=by
 have HA:=Lh (fun z=>uatint_any X.Al X.cl s.lk.cs k z w h.se.lock hk)
 have H0:=Lh h
 clear h
 go_enter Tryz.func85,Tryz.ntmps85
 have c2:=H0.out.rb.c 2 _ rfl
 have yl:=H0.out.rb.lt
 go_wp2_with fail
 refine (HA.out _).mono ?_
 rintro e w1 ⟨rfl,rfl⟩
 go_wp2
 go_ret
 exact ⟨rfl,rfl⟩
def slF (N:Nat):List Int->Nat
 | []=>0
 | c::l=>if c=(N:Int) then 0 else slF N l+1
theorem slF_le (N:Nat) (l:List Int):slF N l<=l.length:=by
 induction l with
 | nil=>exact nLR _
 | cons c l ih=>unfold slF;split <;> simp <;> omega
theorem slF_lt {N:Nat} {l:List Int} {j:Nat} (h:j<slF N l):ig l j≠(N:Int):=by
 induction l generalizing j with
 | nil=>simp [slF] at h
 | cons c l ih=>
  unfold slF at h
  split at h
  ·exact absurd h (by omega)
  ·rename_i hc
   cases j with
   | zero=>simpa [ig] using hc
   | succ j=>
    have:=ih (j:=j) (by omega)
    simpa [ig] using this
theorem slF_of {N:Nat} {l:List Int} {k:Nat} (hk:k<=l.length) (h1:∀ j,j<k->ig l j≠(N:Int)) (h2:k<l.length->ig l k=(N:Int)):slF N l=k:=by
 induction l generalizing k with
 | nil=>simp at hk;simp [slF,hk]
 | cons c l ih=>
  cases k with
  | zero=>
   have:=h2 (by simp)
   simp [ig] at this
   simp [slF,this]
  | succ k=>
   have h0:=h1 0 (by omega)
   simp [ig] at h0
   have:=ih (k:=k) (by simpa using hk) (fun j hj=>by have:=h1 (j+1) (by omega);simpa [ig] using this) (fun h=>by have:=h2 (by simpa using h);simpa [ig] using this)
   simp [slF,h0,this]
theorem uixf_any {B p:Nat} {s:Se} {X:Sex} {a:Ar} {Y:Ax} {t n:Int} (w:World) (h:Ur B p s X a Y t n w) (hl:s.lk.cs.length<=9):Calls Tryz.prog 109 #[.slice X.Al s.lk.cs.length X.cl,.func (.func 86) #[.pointer (some ⟨p,0,none⟩)] #[]] w fun e w'=>e=.returned (.int .i64 (if slF a.sl.length s.lk.cs<s.lk.cs.length then (slF a.sl.length s.lk.cs:Int) else -1))/\w=w':=by
 have HD:=Lh (fun x=>uisdead_any x w h)
 obtain ⟨R,hR⟩:∃ R,R=(if slF a.sl.length s.lk.cs<s.lk.cs.length then (slF a.sl.length s.lk.cs:Int) else -1):=⟨_,rfl⟩
 rw [<-hR]
 have HRR:=Lh hR
 have HF:=Lh h.se.lock
 have HL:=Lh hl
 clear h hl hR
 go_enter Tryz.func109,Tryz.ntmps109
 go_wp2
 go_loopw [8] (fun i wr=>∃ k:Nat,k<=s.lk.cs.length/\i=.int .i64 k/\w=wr/\∀ j,j<k->ig s.lk.cs j≠(a.sl.length:Int)) (fun i _=>s.lk.cs.length - (intOf i).toNat)
 case atStart=>exact ⟨0,by omega,rfl,rfl,fun j h=>absurd h (by omega)⟩
 case round=>
  obtain ⟨k,hk,rfl,rfl,hno⟩:=hrel
  have HN:=Lh hno
  clear hno
  by_cases hlt:k<s.lk.cs.length
  ·obtain ⟨b,o,hA,hb,hc⟩:=HF.out.atg hlt
   clear hb
   have hw:IntKind.i64.wrap ((k:Int)+1)=(k:Int)+1:=IntWalk.i64_in _ (by have:=HL.out;omega)
   by_cases he:ig s.lk.cs k=(a.sl.length:Int)
   ·have HR:=Lh (show R=(k:Int) from by rw [HRR.out,slF_of hk HN.out (fun _=>he),if_pos hlt])
    have HE:=Lh (show (ig s.lk.cs k==(a.sl.length:Int))=true from by simp [he])
    clear he HRR
    generalize ig s.lk.cs k=M at*
    rw [hA]
    go_wp2_with fail
    refine (HD.out _).mono ?_
    rw [HE.out]
    rintro e w1 ⟨rfl,rfl⟩
    go_wp2
    go_ret
    exact ⟨by rw [HR.out];rfl,rfl⟩
   ·have HNN:=Lh (show ∀ j,j<k+1->ig s.lk.cs j≠(a.sl.length:Int) from fun j h=>by
     by_cases e:j=k
     ·rw [e];exact he
     ·exact HN.out j (by omega))
    have HE:=Lh (show (ig s.lk.cs k==(a.sl.length:Int))=false from by simp [he])
    clear he HRR
    generalize ig s.lk.cs k=M at*
    rw [hA]
    go_wp2_with fail
    refine (HD.out _).mono ?_
    rw [HE.out]
    rintro e w1 ⟨rfl,rfl⟩
    go_wp2
    go_roundw
    case rel=>exact ⟨k+1,by omega,by first | rfl | go_num,by first | rfl | trivial,HNN.out⟩
    case measure=>have:=HL.out;simp [intOf];omega
  ·have HR:=Lh (show R = -1 from by rw [HRR.out,slF_of (k:=s.lk.cs.length) (nLR _) (fun j hj=>HN.out j (by omega)) (fun h=>absurd h (Nat.lt_irrefl _)),if_neg (Nat.lt_irrefl _)])
   go_wp2
   go_ret
   exact ⟨by rw [HR.out];rfl,rfl⟩
theorem uslots_any {B p:Nat} {s:Se} {X:Sex} {a:Ar} {Y:Ax} {t n:Int} (w:World) (h:Ur B p s X a Y t n w) (hl:s.lk.cs.length<=9):Calls Tryz.prog 78 #[.pointer (some ⟨p,0,none⟩)] w fun e w'=>e=.returned (.int .i64 (slF a.sl.length s.lk.cs:Int))/\w=w':=by
 have HI:=Lh (uixf_any w h hl)
 have H0:=Lh h
 have hmf:∀ (fn:Fn) (first cap:Array Value) (w:World),(Instr.makeFunc fn first cap).run Tryz.prog w=.ok (.func fn first cap) w:=fun _ _ _ _=>rfl
 have hle:=slF_le a.sl.length s.lk.cs
 by_cases hd:slF a.sl.length s.lk.cs<s.lk.cs.length
 ·rw [if_pos hd] at HI
  clear h hl hd hle
  generalize slF a.sl.length s.lk.cs=k at*
  go_enter Tryz.func78,Tryz.ntmps78
  have c2:=H0.out.rb.c 2 _ rfl
  have yl:=H0.out.rb.lt
  have h0:(0:Int)<=(k:Int):=by omega
  go_wp2_with fail
  refine HI.out.mono ?_
  rintro e w1 ⟨rfl,rfl⟩
  go_wp2
  go_ret
  exact ⟨rfl,rfl⟩
 ·have e:slF a.sl.length s.lk.cs=s.lk.cs.length:=by omega
  rw [if_neg hd] at HI
  rw [e]
  clear h hl hd hle e
  go_enter Tryz.func78,Tryz.ntmps78
  have c2:=H0.out.rb.c 2 _ rfl
  have yl:=H0.out.rb.lt
  go_wp2_with fail
  refine HI.out.mono ?_
  rintro e w1 ⟨rfl,rfl⟩
  go_wp2
  go_ret
  exact ⟨rfl,rfl⟩
def emB (N:Nat) (s:Se) (ph:Int):Bool:=if ph=1 then decide (slF N s.lk.cs=0) else if ph=5 then decide (s.o.od.length=0) else if ph=6 then decide (s.o.ed.length=0) else if ph=7 then decide (s.sh.length=0) else false
theorem uempty_any {B p:Nat} {s:Se} {X:Sex} {a:Ar} {Y:Ax} {t n:Int} (ph:Int) (w:World) (h:Ur B p s X a Y t n w) (hl:s.lk.cs.length<=9):Calls Tryz.prog 54 #[.pointer (some ⟨p,0,none⟩),.int .i64 ph] w fun e w'=>e=.returned (.bool (emB a.sl.length s ph))/\w=w':=by
 have HS:=Lh (uslots_any w h hl)
 have H0:=Lh h
 have ek:∀ k:Nat,((k:Int)==0)=decide (k=0):=fun k=>by rw [Bool.eq_iff_iff];simp
 have HE:=Lh (ek (slF a.sl.length s.lk.cs))
 have HQ:=Lh (show emB a.sl.length s ph=if ph=1 then decide (slF a.sl.length s.lk.cs=0) else if ph=5 then decide (s.o.od.length=0) else if ph=6 then decide (s.o.ed.length=0) else if ph=7 then decide (s.sh.length=0) else false from rfl)
 have e5:=ek s.o.od.length
 have e6:=ek s.o.ed.length
 have e7:=ek s.sh.length
 clear h hl ek
 by_cases h1:ph=1
 ·subst h1
  have HR:=Lh (HQ.out.trans (if_pos rfl))
  clear HQ e5 e6 e7
  go_enter Tryz.func54,Tryz.ntmps54
  go_wp2_with fail
  refine HS.out.mono ?_
  rintro e w1 ⟨rfl,rfl⟩
  go_wp2
  go_ret
  exact ⟨by rw [HR.out,<-HE.out];rfl,rfl⟩
 ·by_cases h5:ph=5
  ·subst h5
   have HR:=Lh (HQ.out.trans ((if_neg (by decide)).trans (if_pos rfl)))
   clear HQ e6 e7 h1
   go_enter Tryz.func54,Tryz.ntmps54
   have c:=H0.out.rb.c 21 _ rfl
   have yl:=H0.out.rb.lt
   go_wp2
   go_ret
   exact ⟨by rw [HR.out];simp,rfl⟩
  ·by_cases h6:ph=6
   ·subst h6
    have HR:=Lh (HQ.out.trans ((if_neg (by decide)).trans ((if_neg (by decide)).trans (if_pos rfl))))
    clear HQ e5 e7 h1 h5
    go_enter Tryz.func54,Tryz.ntmps54
    have c:=H0.out.rb.c 23 _ rfl
    have yl:=H0.out.rb.lt
    go_wp2
    go_ret
    exact ⟨by rw [HR.out];simp,rfl⟩
   ·by_cases h7:ph=7
    ·subst h7
     have HR:=Lh (HQ.out.trans ((if_neg (by decide)).trans ((if_neg (by decide)).trans ((if_neg (by decide)).trans (if_pos rfl)))))
     clear HQ e5 e6 h1 h5 h6
     go_enter Tryz.func54,Tryz.ntmps54
     have c:=H0.out.rb.c 11 _ rfl
     have yl:=H0.out.rb.lt
     go_wp2
     go_ret
     exact ⟨by rw [HR.out];simp,rfl⟩
    ·have HR:=Lh (HQ.out.trans ((if_neg h1).trans ((if_neg h5).trans ((if_neg h6).trans (if_neg h7)))))
     have b1:(ph==1)=false:=by simp [h1]
     have b5:(ph==5)=false:=by simp [h5]
     have b6:(ph==6)=false:=by simp [h6]
     have b7:(ph==7)=false:=by simp [h7]
     clear HQ e5 e6 e7 h1 h5 h6 h7
     go_enter Tryz.func54,Tryz.ntmps54
     go_wp2
     go_ret
     exact ⟨by rw [HR.out];rfl,rfl⟩
def ephF (N:Nat) (s:Se) (ph:Int):Int:=if emB N s ph=true then (if emB N s (ph+1)=true then (if emB N s (ph+2)=true then ph+3 else ph+2) else ph+1) else ph
def enP (N:Nat) (s:Se) (ph:Int):Se:=if ephF N s ph=8 then (s.lkd (frL s.lk)).ntr 8 else s.ntr (ephF N s ph)
def ntE (N:Nat) (s:Se) (ph:Int):Int:=if ephF N s ph=8 then frE s.lk else 0
theorem emB_not {N:Nat} {s:Se} {ph:Int} (h1:ph≠1) (h:ph<5\/8<=ph):emB N s ph=false:=by
 unfold emB
 rw [if_neg h1,if_neg (by omega),if_neg (by omega),if_neg (by omega)]
theorem eph_of {N:Nat} {s:Se} {ph k:Int} (h0:ph<=k) (h1:0<=ph) (h2:ph<=9) (hy:∀ j,ph<=j->j<k->emB N s j=true) (hn:emB N s k=false):ephF N s ph=k:=by
 have hk:k<=ph+3:=by
  by_cases h:k<=ph+3
  ·exact h
  ·have a0:=hy ph (by omega) (by omega)
   have a1:=hy (ph+1) (by omega) (by omega)
   have a2:=hy (ph+2) (by omega) (by omega)
   have a3:=hy (ph+3) (by omega) (by omega)
   by_cases e1:ph=1
   ·subst e1
    rw [emB_not (by decide) (by decide)] at a1
    exact absurd a1 (by decide)
   ·by_cases e5:5<=ph
    ·rw [emB_not (by omega) (by omega)] at a3
     exact absurd a3 (by decide)
    ·rw [emB_not e1 (by omega)] at a0
     exact absurd a0 (by decide)
 unfold ephF
 rcases (show k=ph\/k=ph+1\/k=ph+2\/k=ph+3 by omega) with rfl | rfl | rfl | rfl
 ·rw [if_neg (by rw [hn];decide)]
 ·rw [if_pos (hy ph (by omega) (by omega)),if_neg (by rw [hn];decide)]
 ·rw [if_pos (hy ph (by omega) (by omega)),if_pos (hy (ph+1) (by omega) (by omega)),if_neg (by rw [hn];decide)]
 ·rw [if_pos (hy ph (by omega) (by omega)),if_pos (hy (ph+1) (by omega) (by omega)),if_pos (hy (ph+2) (by omega) (by omega))]
theorem uenter_any {B p:Nat} {s:Se} {X:Sex} {a:Ar} {Y:Ax} {t n:Int} (ph:Int) (w:World) (h:Ur B p s X a Y t n w) (hl:s.lk.cs.length<=9) (h0:0<=ph) (h9:ph<=9):Calls Tryz.prog 31 #[.pointer (some ⟨p,0,none⟩),.int .i64 ph] w (UrP B p t n (enP a.sl.length s ph) a (ntE a.sl.length s ph) w):=by
 have HE:=Lh (fun k=>uempty_any k w h hl)
 have HFR:=Lh (fun W (k:Ur B p (s.ntr 8) X a Y t n W)=>jfree_any s.lk X.Al X.cl W k.se.lock hl)
 have H0:=Lh h
 have HB:=Lh (And.intro h0 h9)
 obtain ⟨R,hR⟩:∃ R,R=enP a.sl.length s ph:=⟨_,rfl⟩
 obtain ⟨E,hE⟩:∃ R,R=ntE a.sl.length s ph:=⟨_,rfl⟩
 have HR:=Lh (And.intro hR hE)
 rw [<-hR,<-hE]
 clear h hl h0 h9 hR hE
 go_enter Tryz.func31,Tryz.ntmps31
 go_wp2
 go_loopw [1] (fun i wr=>∃ k:Int,i=.int .i64 k/\ph<=k/\k<=10/\w=wr/\Hid (∀ j,ph<=j->j<k->emB a.sl.length s j=true)) (fun i _=>(12 - intOf i).toNat)
 case atStart=>exact ⟨ph,rfl,Int.le_refl _,by have:=HB.out;omega,rfl,Lh (fun j h1 h2=>absurd h2 (by omega))⟩
 case round=>
  obtain ⟨k,rfl,hk,hk10,rfl,HY⟩:=hrel
  cases hm:emB a.sl.length s k with
  | true=>
   have HM:=Lh hm
   have HK9:=Lh (show k<=8 from by
    by_cases h:k<=8
    ·exact h
    ·rw [emB_not (by have:=HB.out;omega) (by omega)] at hm
     exact absurd hm (by decide))
   have hw:IntKind.i64.wrap (k+1)=k+1:=IntWalk.i64_in _ (by have:=HB.out;omega)
   clear hm
   go_wp2_with fail
   refine (HE.out k).mono ?_
   rw [HM.out]
   rintro e w1 ⟨rfl,rfl⟩
   go_wp2
   go_roundw
   case rel=>exact ⟨k+1,rfl,by omega,by have:=HK9.out;omega,by first | rfl | trivial,Lh (fun j h1 h2=>by
    by_cases e:j=k
    ·rw [e];exact HM.out
    ·exact HY.out j h1 (by omega))⟩
   case measure=>have:=HK9.out;simp [intOf];omega
  | false=>
   have HM:=Lh hm
   have HP:=Lh (show ephF a.sl.length s ph=k from eph_of hk HB.out.1 HB.out.2 HY.out hm)
   clear hm HY hk10
   by_cases h8:k=8
   ·subst h8
    have HRR:=Lh (show R=(s.lkd (frL s.lk)).ntr 8/\E=frE s.lk from ⟨by rw [HR.out.1];unfold enP;rw [HP.out,if_pos rfl],by rw [HR.out.2];unfold ntE;rw [HP.out,if_pos rfl]⟩)
    have HN:=Lh (H0.out.ntr 8)
    obtain ⟨M,hM⟩:∃ M,M=frL s.lk:=⟨_,rfl⟩
    obtain ⟨FE,hFE⟩:∃ M,M=frE s.lk:=⟨_,rfl⟩
    rw [<-hM] at HFR HRR
    rw [<-hFE] at HFR HRR
    clear hM hFE
    have c0:=H0.out.rb.c 0 _ rfl
    have c1:=H0.out.rb.c 1 _ rfl
    have f0:=H0.out.rb.f 0
    have f1:=H0.out.rb.f 1
    have yl:=H0.out.rb.lt
    go_wp2_with fail
    refine (HE.out 8).mono ?_
    rw [HM.out]
    rintro e w1 ⟨rfl,rfl⟩
    go_upto_region 4 with (fail)
    clear c0 c1 f0 f1 yl
    have HBW:=Lh (show Below B w ((w.setCell ⟨p,0,none⟩ (.int .i64 8)).setCell ⟨p,1,none⟩ (.int .i64 0)) from ((Below.refl B w).setCell (p:=⟨p,0,none⟩) H0.out.ne _).setCell (p:=⟨p,1,none⟩) H0.out.ne _)
    clear H0
    generalize ((w.setCell ⟨p,0,none⟩ (.int .i64 8)).setCell ⟨p,1,none⟩ (.int .i64 0))=w2 at*
    have c2:=HN.out.rb.c 2 _ rfl
    have c3:=HN.out.rb.c 3 _ rfl
    have c4:=HN.out.rb.c 4 _ rfl
    have c5:=HN.out.rb.c 5 _ rfl
    have c6:=HN.out.rb.c 6 _ rfl
    have yl:=HN.out.rb.lt
    go_wp2_with fail
    clear c2 c3 c4 c5 c6 yl
    refine (HFR.out _ HN.out).mono ?_
    rintro e w3 ⟨A,c,rfl,hn,hf,hb⟩
    have hal:=(Below.refl w3.heap.size w3).alloc (nLR _) (.cells #[.slice A M.cs.length c,.int .i64 M.ph,.int .i64 M.hv,.int .i64 M.tr,.int .i64 M.wt] 45)
    have HK:=Lh (LB.start w3 M A c 45)
    have HQ:=Lh (show p<w3.heap.size from Nat.lt_of_lt_of_le HN.out.lt hb.size)
    have HL3:=Lh (show Nw B A/\OffB p M.cs.length A/\Fl (w3.alloc (.cells #[.slice A M.cs.length c,.int .i64 M.ph,.int .i64 M.hv,.int .i64 M.tr,.int .i64 M.wt] 45)) (w3.alloc (.cells #[.slice A M.cs.length c,.int .i64 M.ph,.int .i64 M.hv,.int .i64 M.tr,.int .i64 M.wt] 45)).heap.size (.slice A M.cs.length c) M.cs from ⟨nw_low hn (Nat.le_trans HN.out.ne (Nat.le_of_lt HN.out.lt)),offb_nw hn HN.out.lt,hf.up hal⟩)
    have HB3:=Lh (HBW.out.trans ((hb.trans (hal.mono hb.size)).mono (Nat.le_trans HN.out.ne (Nat.le_of_lt HN.out.lt))))
    have HN3:=Lh ((HN.out.up hb).up hal)
    clear hn hf hb hal HN HBW HFR
    go_upto_region 7 with (fail)
    obtain ⟨q,hq⟩:∃ q,q=w3.heap.size:=⟨_,rfl⟩
    rw [<-hq] at HK HQ ⊢
    clear hq
    generalize w3.alloc (.cells #[.slice A M.cs.length c,.int .i64 M.ph,.int .i64 M.hv,.int .i64 M.tr,.int .i64 M.wt] 45)=w4 at*
    obtain ⟨k0,k1,k2,k3,k4⟩:=HK.out.k
    have kl:=HK.out.lt
    have hqp:¬p=q:=Nat.ne_of_lt HQ.out
    have c2:=HN3.out.rb.c 2 _ rfl
    have f2:=HN3.out.rb.f 2
    have c3:=HN3.out.rb.c 3 _ rfl
    have f3:=HN3.out.rb.f 3
    have c4:=HN3.out.rb.c 4 _ rfl
    have f4:=HN3.out.rb.f 4
    have c5:=HN3.out.rb.c 5 _ rfl
    have f5:=HN3.out.rb.f 5
    have c6:=HN3.out.rb.c 6 _ rfl
    have f6:=HN3.out.rb.f 6
    have HF:=Lh (show UrP B p t n R a E w (.returned (.int .i64 FE)) (((((w4.setCell ⟨p,2,none⟩ (.slice A M.cs.length c)).setCell ⟨p,3,none⟩ (.int .i64 M.ph)).setCell ⟨p,4,none⟩ (.int .i64 M.hv)).setCell ⟨p,5,none⟩ (.int .i64 M.tr)).setCell ⟨p,6,none⟩ (.int .i64 M.wt)) from by
     rw [HRR.out.1,HRR.out.2]
     exact (HN3.out.lok HL3.out.2.2 HL3.out.2.1 HL3.out.1).rp (((((HB3.out.setCell (p:=⟨p,2,none⟩) HN3.out.ne _).setCell (p:=⟨p,3,none⟩) HN3.out.ne _).setCell (p:=⟨p,4,none⟩) HN3.out.ne _).setCell (p:=⟨p,5,none⟩) HN3.out.ne _).setCell (p:=⟨p,6,none⟩) HN3.out.ne _) _)
    have yl:=HN3.out.rb.lt
    clear HN3 HL3 HB3 HK HQ HRR
    go_wp2
    go_ret
    exact HF.out
   ·have HRR:=Lh (show R=s.ntr k/\E=0 from ⟨by rw [HR.out.1];unfold enP;rw [HP.out,if_neg h8],by rw [HR.out.2];unfold ntE;rw [HP.out,if_neg h8]⟩)
    have hk8:(k != 8)=true:=bne_iff_ne.2 h8
    have c0:=H0.out.rb.c 0 _ rfl
    have c1:=H0.out.rb.c 1 _ rfl
    have f0:=H0.out.rb.f 0
    have f1:=H0.out.rb.f 1
    have yl:=H0.out.rb.lt
    have HF:=Lh (show UrP B p t n R a E w (.returned (.int .i64 0)) ((w.setCell ⟨p,0,none⟩ (.int .i64 k)).setCell ⟨p,1,none⟩ (.int .i64 0)) from by
     rw [HRR.out.1,HRR.out.2]
     exact (H0.out.ntr k).rp (((Below.refl B w).setCell (p:=⟨p,0,none⟩) H0.out.ne _).setCell (p:=⟨p,1,none⟩) H0.out.ne _) 0)
    go_wp2_with fail
    refine (HE.out k).mono ?_
    rw [HM.out]
    rintro e w1 ⟨rfl,rfl⟩
    clear H0
    go_wp2
    go_ret
    exact HF.out
end Go.Proofs.YtkecnihgjepfeaaGreat
