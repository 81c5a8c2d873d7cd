/- What is proved here: parts of the proof: Ue Uwa. -/
import Derived.Test.YtkecnihgjepfeaaGreatJ40
namespace Go.Proofs.YtkecnihgjepfeaaGreat
open Go.RowKit
set_option linter.unusedVariables false
set_option linter.unusedSimpArgs false
set_option maxHeartbeats 8000000
set_option maxRecDepth 20000
def fmR:Value->Option (DataW Value×List MemPlace):=fun v=>some (.held v,[])
def FmAt (w:World) (b n:Nat) (l:List (Int×Value)):Prop:=∃ D:DataW Value,w.ownsMap Tryz.prog 3 fmR b n D/\Maps.IsMap D/\∀ x:Int,D.atKey (.int .i64 x) .nil=(match l.lookup x with | some v=>.held v | none=>.nil)
theorem fm_new (w:World):FmAt (w.alloc (.map #[] 0)) w.heap.size 0 []:=⟨.map [],World.ownsMap_made _ _ _ _,Maps.isMap_empty,fun x=>by simp [DataW.atKey]⟩
theorem fm_zero (w:World):(zeroValue 102).run Tryz.prog w=.ok .nilFunc w:=by kernel_rfl
theorem FmAt.look {w:World} {b n:Nat} {l:List (Int×Value)} (h:FmAt w b n l) {x:Int} {v:Value} (hx:(Lit.int .i64 x).wf=true) (hv:l.lookup x=some v) :
  (Instr.lookup 104 (.map (some b)) (.int .i64 x) true).run Tryz.prog w=.ok (.tuple #[v,.bool true]) w:=by
 obtain ⟨D,⟨es,clock,hb,F,hs,rfl⟩,hD,ha⟩:=h
 have h1:=ha x
 rw [hv] at h1
 rcases Maps.fit_look true met_key Tryz.underlying104 (fm_zero w) hb F (Maps.keyOf_int_mk Tryz.underlying3 hx) with ⟨-,-,hat⟩ | ⟨e0,y,-,-,hrun,hRv,hat,-⟩
 ·have h3:(DataW.nil:DataW Value)=.held v:=(hat .nil).symm.trans h1
  cases h3
 ·have h1:y.1=.held v:=(hat .nil).symm.trans h1
  have h2:y=(.held e0.val,[]):=(Option.some.inj (show some ((.held e0.val,[]):DataW Value×List MemPlace)=some y from hRv)).symm
  have h4:e0.val=v:=DataW.held.inj (show (.held e0.val:DataW Value)=.held v from by rw [<-h1,h2])
  rw [hrun,h4]
  rfl
theorem wpList_insert_fm {w:World} {ops:Array Oper} {rest:List Oper} {o:Oper} {a:Act} {Q:Exit->Act->World->Prop}
  (hg:o.guard=none) (m x v:Operand) (hop:o.op=Op.insert 104 m x v) (b n:Nat) (l:List (Int×Value)) (key:Int) (val:Value)
  (hm:a.eval m=.map (some b)) (hx:a.eval x=.int .i64 key) (hv:a.eval v=val) (hown:FmAt w b n l) (hn:n<maxLen) (hwf:(Lit.int .i64 key).wf=true)
  (hK:∀ w',FmAt w' b (n+1) ((key,val)::l)->w.grownBy w' (some b)->wpList Tryz.prog ops Q rest (a.put o.dst undef) w') :
  wpList Tryz.prog ops Q (o::rest) a w:=by
 obtain ⟨D,ho,hD,ha⟩:=hown
 refine wpList_plain hg fun K' hK'=>?_
 obtain ⟨w',hrun,r1,r2⟩:=ho.update met_key Tryz.underlying104 hn (Maps.keyOf_int_mk Tryz.underlying3 hwf) (show fmR val=some (.held val,[]) from rfl)
 unfold Oper.wp
 simp [execOp,hop,hm,hx,hv,hrun,Result.andThen]
 refine hK' _ _ (hK w' ⟨_,r1,hD.put _ _,fun y=>?_⟩ r2)
 by_cases e:y=key
 ·subst e
  rw [Maps.atKey_put_same hD (show WideAt.IsKeyLit (.int .i64 y) from trivial)]
  simp
 ·rw [Maps.atKey_put_other (fun h=>e (by injection h)),ha]
  have e2:(y==key)=false:=by simp [e]
  simp [List.lookup,e2]
def phL (p:Nat):List (Int×Value):=[(8,.func (.func 65) #[.pointer (some ⟨p,0,none⟩)] #[]),(7,.func (.func 64) #[.pointer (some ⟨p,0,none⟩)] #[]),(6,.func (.func 63) #[.pointer (some ⟨p,0,none⟩)] #[]),(5,.func (.func 62) #[.pointer (some ⟨p,0,none⟩)] #[]),(3,.func (.func 61) #[.pointer (some ⟨p,0,none⟩)] #[]),(2,.func (.func 60) #[.pointer (some ⟨p,0,none⟩)] #[]),(1,.func (.func 59) #[.pointer (some ⟨p,0,none⟩)] #[]),(0,.func (.func 58) #[.pointer (some ⟨p,0,none⟩)] #[])]
theorem uphases_any (p:Nat) (w:World):Calls Tryz.prog 33 #[.pointer (some ⟨p,0,none⟩)] w fun e w'=>∃ b,e=.returned (.map (some b))/\FmAt w' b 8 (phL p)/\Below w.heap.size w w':=by
 have hmf:∀ (fn:Fn) (first cap:Array Value) (w:World),(Instr.makeFunc fn first cap).run Tryz.prog w=.ok (.func fn first cap) w:=fun _ _ _ _=>rfl
 have hmm:=@run_makeMap Tryz.prog
 have HM0:=Lh (fm_new w)
 have HB0:=Lh ((Below.refl w.heap.size w).alloc (nLR _) (.map #[] 0))
 obtain ⟨b,hb⟩:∃ b,b=w.heap.size:=⟨_,rfl⟩
 rw [<-hb] at HM0
 have HBB:=Lh hb
 go_enter Tryz.func33,Tryz.ntmps33
 go_upto_region 1 with (fail)
 refine wp_region_list ?_
 refine wpList_plain rfl (fun K hK=>?_)
 go_simp
 refine hK _ _ ?_
 clear hK K
 try simp only [Act.put,sIA,sIB,sIC]
 rw [<-hb]
 clear hb
 generalize w.alloc (.map #[] 0)=w0 at*
 iterate 2
  refine wpList_plain rfl (fun K hK=>?_)
  go_simp
  refine hK _ _ ?_
  clear hK K
  try simp only [Act.put,sIA,sIB,sIC]
 refine wpList_insert_fm rfl _ _ _ rfl b 0 _ 0 _ rfl rfl rfl HM0.out (by decide) (by decide) ?_
 intro w1 hm hg
 have HM1:=Lh hm
 have HB1:=Lh (HB0.out.grown hg HB0.out.size (fun k e=>by injection e with e;rw [<-e,HBB.out];exact nLR _))
 clear hm hg HM0 HB0
 try simp only [Act.put,sIA,sIB,sIC]
 iterate 2
  refine wpList_plain rfl (fun K hK=>?_)
  go_simp
  refine hK _ _ ?_
  clear hK K
  try simp only [Act.put,sIA,sIB,sIC]
 refine wpList_insert_fm rfl _ _ _ rfl b 1 _ 1 _ rfl rfl rfl HM1.out (by decide) (by decide) ?_
 intro w2 hm hg
 have HM2:=Lh hm
 have HB2:=Lh (HB1.out.grown hg HB1.out.size (fun k e=>by injection e with e;rw [<-e,HBB.out];exact nLR _))
 clear hm hg HM1 HB1
 try simp only [Act.put,sIA,sIB,sIC]
 iterate 2
  refine wpList_plain rfl (fun K hK=>?_)
  go_simp
  refine hK _ _ ?_
  clear hK K
  try simp only [Act.put,sIA,sIB,sIC]
 refine wpList_insert_fm rfl _ _ _ rfl b 2 _ 2 _ rfl rfl rfl HM2.out (by decide) (by decide) ?_
 intro w3 hm hg
 have HM3:=Lh hm
 have HB3:=Lh (HB2.out.grown hg HB2.out.size (fun k e=>by injection e with e;rw [<-e,HBB.out];exact nLR _))
 clear hm hg HM2 HB2
 try simp only [Act.put,sIA,sIB,sIC]
 iterate 2
  refine wpList_plain rfl (fun K hK=>?_)
  go_simp
  refine hK _ _ ?_
  clear hK K
  try simp only [Act.put,sIA,sIB,sIC]
 refine wpList_insert_fm rfl _ _ _ rfl b 3 _ 3 _ rfl rfl rfl HM3.out (by decide) (by decide) ?_
 intro w4 hm hg
 have HM4:=Lh hm
 have HB4:=Lh (HB3.out.grown hg HB3.out.size (fun k e=>by injection e with e;rw [<-e,HBB.out];exact nLR _))
 clear hm hg HM3 HB3
 try simp only [Act.put,sIA,sIB,sIC]
 iterate 2
  refine wpList_plain rfl (fun K hK=>?_)
  go_simp
  refine hK _ _ ?_
  clear hK K
  try simp only [Act.put,sIA,sIB,sIC]
 refine wpList_insert_fm rfl _ _ _ rfl b 4 _ 5 _ rfl rfl rfl HM4.out (by decide) (by decide) ?_
 intro w5 hm hg
 have HM5:=Lh hm
 have HB5:=Lh (HB4.out.grown hg HB4.out.size (fun k e=>by injection e with e;rw [<-e,HBB.out];exact nLR _))
 clear hm hg HM4 HB4
 try simp only [Act.put,sIA,sIB,sIC]
 iterate 2
  refine wpList_plain rfl (fun K hK=>?_)
  go_simp
  refine hK _ _ ?_
  clear hK K
  try simp only [Act.put,sIA,sIB,sIC]
 refine wpList_insert_fm rfl _ _ _ rfl b 5 _ 6 _ rfl rfl rfl HM5.out (by decide) (by decide) ?_
 intro w6 hm hg
 have HM6:=Lh hm
 have HB6:=Lh (HB5.out.grown hg HB5.out.size (fun k e=>by injection e with e;rw [<-e,HBB.out];exact nLR _))
 clear hm hg HM5 HB5
 try simp only [Act.put,sIA,sIB,sIC]
 iterate 2
  refine wpList_plain rfl (fun K hK=>?_)
  go_simp
  refine hK _ _ ?_
  clear hK K
  try simp only [Act.put,sIA,sIB,sIC]
 refine wpList_insert_fm rfl _ _ _ rfl b 6 _ 7 _ rfl rfl rfl HM6.out (by decide) (by decide) ?_
 intro w7 hm hg
 have HM7:=Lh hm
 have HB7:=Lh (HB6.out.grown hg HB6.out.size (fun k e=>by injection e with e;rw [<-e,HBB.out];exact nLR _))
 clear hm hg HM6 HB6
 try simp only [Act.put,sIA,sIB,sIC]
 iterate 2
  refine wpList_plain rfl (fun K hK=>?_)
  go_simp
  refine hK _ _ ?_
  clear hK K
  try simp only [Act.put,sIA,sIB,sIC]
 refine wpList_insert_fm rfl _ _ _ rfl b 7 _ 8 _ rfl rfl rfl HM7.out (by decide) (by decide) ?_
 intro w8 hm hg
 have HM8:=Lh hm
 have HB8:=Lh (HB7.out.grown hg HB7.out.size (fun k e=>by injection e with e;rw [<-e,HBB.out];exact nLR _))
 clear hm hg HM7 HB7
 try simp only [Act.put,sIA,sIB,sIC]
 go_wp2
 go_ret
 exact ⟨b,rfl,HM8.out,HB8.out⟩
theorem info_run15:(Tryz.prog.info? 99).map (·.size)=some 39:=by kernel_rfl
theorem rcl_one (s:Se) (X:Sex) (a:Ar) (Y:Ax) (t n:Int):(rcl s X a Y t n).toArray.all (·.oneCell')=true:=all_oneCell_toArray (by
 intro v hv
 simp only [rcl,List.mem_cons,List.not_mem_nil,or_false] at hv
 rcases hv with rfl | rfl | rfl | rfl | rfl | rfl | rfl | rfl | rfl | rfl | rfl | rfl | rfl | rfl | rfl | rfl | rfl | rfl | rfl | rfl | rfl | rfl | rfl | rfl | rfl | rfl | rfl | rfl | rfl | rfl | rfl | rfl | rfl | rfl | rfl | rfl | rfl | rfl | rfl <;> rfl)
theorem info_ar15:(Tryz.prog.info? 36).map (·.size)=some 11:=by kernel_rfl
structure UrS (wr:World) (p:Nat) (s:Se) (X:Sex) (a:Ar) (Y:Ax) (t n:Int) (W:World):Prop where
 ur:Ur wr.heap.size p s X a Y t n W
 us:Us wr.heap.size p s X a Y W
 uo:Uo wr.heap.size p s X a Y W
 bel:Below wr.heap.size wr W
theorem Nw15.up {lo:Nat} {s:Se} {X:Sex} {W W' : World} (h:Nw15 lo s X W) (hb:Below W.heap.size W W'):Nw15 lo s X W':=⟨h.nw,h.se.up hb,own_up10 h.os hb,h.fs,own_up10 h.oh hb,h.fh⟩
theorem Nw15.low {lo lo' : Nat} {s:Se} {X:Sex} {W:World} (h:Nw15 lo s X W) (hl:lo'<=lo):Nw15 lo' s X W:=⟨h.nw.low hl,h.se,own_low15 h.os hl,h.fs,own_low15 h.oh hl,h.fh⟩
def OB15 (s:Se) (X:Sex) (P:Nat->Prop):Prop:=(∀ b,(Value.slice X.At s.st.length X.ct).ownBlock=some b->P b)/\∀ b,(Value.slice X.A s.sh.length X.c).ownBlock=some b->P b
theorem Nw15.ob {lo:Nat} {s:Se} {X:Sex} {W:World} (h:Nw15 lo s X W):OB15 s X (· < W.heap.size):=⟨fun b e=>(h.os.lt b e).2,fun b e=>(h.oh.lt b e).2⟩
theorem OB15.mono {s:Se} {X:Sex} {P Q:Nat->Prop} (h:OB15 s X P) (hm:∀ b,P b->Q b):OB15 s X Q:=⟨fun b e=>hm b (h.1 b e),fun b e=>hm b (h.2 b e)⟩
theorem own_stN_ne {W:World} {base size n p:Nat} {T:TypeId} {v:Value} {xs vs:List Value} (h:W.ownsRow base T size v n xs) (hp:∀ b,v.ownBlock=some b->b≠p) (o:Nat):(stN15 W p o vs).ownsRow base T size v n xs:=by
 induction vs generalizing W o with
 | nil=>exact h
 | cons u vs ih=>exact ih (own_oth h (a:=⟨p,o,none⟩) hp u) (o+1)
theorem urs_start {wr W0:World} {u:Nat} {s:Se} {X1:Sex} {a:Ar} {Z:Ax} {t n:Int} {zs:List Value} (h0:Rb W0 u zs) (hl:zs.length=39) (hu:wr.heap.size<=u) (hB:Below wr.heap.size wr W0) (hn:Nw15 wr.heap.size s X1 W0) (har:AR W0 W0.heap.size a Z) (hz:Z.nw wr.heap.size) (h1:ROff (s.rows X1) u) (h2:AOff a Z u) (h3:OB15 s X1 (fun b=>b≠u/\AOff a Z b)):UrS wr u s X1 a Z t n (stN15 W0 u 0 (rcl s X1 a Z t n)):=by
 have e:(stN15 W0 u 0 (rcl s X1 a Z t n)).heap.size=W0.heap.size:=stN15_size 0
 refine ⟨⟨h0.stN (by rw [hl];rfl),?_,h1,hn.nw,?_,h2,hz,hu⟩,⟨?_,fun b hb=>⟨(h3.1 b hb).1,(h3.1 b hb).2,hn.fs b hb⟩⟩,⟨?_,fun b hb=>⟨(h3.2 b hb).1,(h3.2 b hb).2,hn.fh b hb⟩⟩,stN15_below hB hu 0⟩
 ·rw [e];exact hn.se.stN h1
 ·rw [e];exact har.stN15 h2 0
 ·exact own_stN_ne hn.os (fun b hb=>(h3.1 b hb).1) 0
 ·exact own_stN_ne hn.oh (fun b hb=>(h3.2 b hb).1) 0
theorem Rb.keepB {W W' : World} {q B:Nat} {cs:List Value} (h:Rb W q cs) (hb:Below B W W') (hq:q<B):Rb W' q cs:=
 ⟨fun j u hu=>(hb.cell (p:=⟨q,j,none⟩) hq).trans (h.c j u hu),fun o=>(hb.frozen (p:=⟨q,o,none⟩) hq).trans (h.f o),Nat.lt_of_lt_of_le h.lt hb.size⟩
def scl15 (s:Se) (X:Sex):List Value:=[.int .i64 s.ph,.int .i64 s.at_,.slice X.Al s.lk.cs.length X.cl,.int .i64 s.lk.ph,.int .i64 s.lk.hv,.int .i64 s.lk.tr,.int .i64 s.lk.wt,.int .i64 s.sn.ph,.int .i64 s.sn.ep,.int .i64 s.sn.ck,.int .i64 s.sn.sp,.slice X.A s.sh.length X.c,.int .i64 s.dc,.slice X.Ad s.dl.length X.cd,.slice X.At s.st.length X.ct,.int .i64 s.dir.vn,.slice X.D.A s.dir.l.length X.D.c,.slice X.D.A2 s.dir.F.length X.D.c2,.slice X.o.A s.o.sh.length X.o.c,.int .i64 s.o.dc,.slice X.o.Ad s.o.dl.length X.o.cd,.slice X.o.Ao s.o.od.length X.o.co,.slice X.o.Ac s.o.ca.length X.o.cc,.slice X.o.Ae s.o.ed.length X.o.ce,.int .i64 s.lim,.slice X.Ac s.ca.length X.cc]
def acl15 (a:Ar) (Y:Ax):List Value:=[.slice Y.A a.sl.length Y.c,.slice Y.A2 a.st.length Y.c2,.int .i64 a.ow,.int .i64 a.cap,.slice Y.A3 a.dl.length Y.c3,.int .i64 a.dir.vn,.slice Y.D.A a.dir.l.length Y.D.c,.slice Y.D.A2 a.dir.F.length Y.D.c2,.int .i64 a.ep,.int .i64 a.ck,.int .i64 a.ni]
theorem scl15_len (s:Se) (X:Sex):(scl15 s X).length=26:=rfl
theorem acl15_len (a:Ar) (Y:Ax):(acl15 a Y).length=11:=rfl
theorem scl15_one (s:Se) (X:Sex):(scl15 s X).toArray.all (·.oneCell')=true:=all_oneCell_toArray (by
 intro v hv
 simp only [scl15,List.mem_cons,List.not_mem_nil,or_false] at hv
 rcases hv with rfl | rfl | rfl | rfl | rfl | rfl | rfl | rfl | rfl | rfl | rfl | rfl | rfl | rfl | rfl | rfl | rfl | rfl | rfl | rfl | rfl | rfl | rfl | rfl | rfl | rfl <;> rfl)
theorem acl15_one (a:Ar) (Y:Ax):(acl15 a Y).toArray.all (·.oneCell')=true:=all_oneCell_toArray (by
 intro v hv
 simp only [acl15,List.mem_cons,List.not_mem_nil,or_false] at hv
 rcases hv with rfl | rfl | rfl | rfl | rfl | rfl | rfl | rfl | rfl | rfl | rfl <;> rfl)
theorem rcl_split (s:Se) (X:Sex) (a:Ar) (Y:Ax) (t n:Int):rcl s X a Y t n=scl15 s X++(acl15 a Y++[.int .i64 t,.int .i64 n]):=rfl
theorem rng_of {W:World} {p:Nat} {s:Se} {X:Sex} {a:Ar} {Y:Ax} {t n:Int} (h:Rb W p (rcl s X a Y t n)):W.rangeAt p 0 (scl15 s X)/\W.rangeAt p 26 (acl15 a Y):=by
 refine ⟨fun j v hv=>?_,fun j v hv=>?_⟩
 ·rw [Nat.zero_add]
  refine h.c j v ?_
  rw [rcl_split,List.getElem?_append_left (List.getElem?_eq_some_iff.1 hv).1]
  exact hv
 ·refine h.c (26+j) v ?_
  rw [rcl_split,List.getElem?_append_right (by rw [scl15_len];omega),scl15_len,Nat.add_sub_cancel_left,List.getElem?_append_left (List.getElem?_eq_some_iff.1 hv).1]
  exact hv
theorem Ur.stq {W:World} {B p q o:Nat} {s:Se} {X:Sex} {a:Ar} {Y:Ax} {t n:Int} {vs:List Value} (h:Ur B p s X a Y t n W) (hq:¬p=q):(stN15 W q o vs).rangeAt p 0 (scl15 s X)/\(stN15 W q o vs).rangeAt p 26 (acl15 a Y):=
 rng_of (h.rb.stNo (p:=q) (vs:=vs) (fun e=>hq e.symm) o)
structure Fi15 (w:World) (q8 q9:Nat) (a:Ar) (Y:Ax) (s:Se) (X:Sex) (W:World):Prop where
 r8:Rb W q8 (acl15 a Y)
 r9:Rb W q9 (scl15 s X)
 ar:AR W W.heap.size a Y
 se:SeR W W.heap.size s X
 bel:Below w.heap.size w W
theorem fi15 {w W:World} {q8 q9:Nat} {a:Ar} {Y:Ax} {s:Se} {X:Sex} {z8 z9:List Value} (h8:Rb W q8 z8) (h9:Rb W q9 z9) (e8:z8.length=11) (e9:z9.length=26) (hne:q8≠q9) (har:AR W W.heap.size a Y) (hse:SeR W W.heap.size s X) (o8:AOff a Y q8/\ROff (s.rows X) q8) (o9:AOff a Y q9/\ROff (s.rows X) q9) (hb:Below w.heap.size w W) (l8:w.heap.size<=q8) (l9:w.heap.size<=q9):Fi15 w q8 q9 a Y s X (stN15 (stN15 W q8 0 (acl15 a Y)) q9 0 (scl15 s X)):=by
 have e1:(stN15 (stN15 W q8 0 (acl15 a Y)) q9 0 (scl15 s X)).heap.size=W.heap.size:=by rw [stN15_size,stN15_size]
 refine ⟨(h8.stN (by rw [acl15_len,e8])).stNo (fun e=>hne e.symm) 0,(h9.stNo hne 0).stN (by rw [scl15_len,e9]),?_,?_,stN15_below (stN15_below hb l8 0) l9 0⟩
 ·rw [e1];exact (har.stN15 o8.1 0).stN15 o9.1 0
 ·rw [e1];exact (hse.stN o8.2).stN o9.2
theorem wp_store_st {P:Program} {op:Oper} {a:Act} {w:World} {K:Act->World->Prop} {Q:Exit->Act->World->Prop} (ty:TypeId) (x y:Operand) (ho:op.op=.store ty x y) (q:Nat) (zs cs:List Value) (hx:a.eval x=.pointer (some ⟨q,0,none⟩)) (hy:a.eval y=.agg cs.toArray) (hr:Rb w q zs) (hl:cs.length=zs.length) (hi:(P.info? ty).map (·.size)=some cs.length) (h1:cs.toArray.all (·.oneCell')=true) (h:K (a.put op.dst undef) (stN15 w q 0 cs)):op.wp P a w K Q:=by
 refine wp_store_mid ty x y ho q 0 cs.toArray hx hy ?_ (by simpa using hi) h1 ?_
 ·have:=hr.there
  rw [<-hl] at this
  simpa using this
 ·have e:w.setCells q 0 cs.toArray.toList=stN15 w q 0 cs:=by rw [stN15_set]
  rw [e]
  exact h
def SE15n (w:World) (a:Ar) (s:Se) (x:Int) (e:Ending) (w' : World):Prop:=∃ Y X,e=.returned (.tuple #[av a Y,sev s X,.int .i64 x])/\Y.nw w.heap.size/\RNw (s.rows X) w.heap.size/\AR w' w'.heap.size a Y/\SeR w' w'.heap.size s X/\Below w.heap.size w w'
end Go.Proofs.YtkecnihgjepfeaaGreat
