/- What is proved here: cuts of a list of leases: what the walk gets, and how it reads; (plain) 'copy' between rows whose elements take more than one cell; rows known whole; (plain) an append of a slice that is read, as a step of a region that draws its order; slices.Clone, slices.Grow, slices.Concat of leases, lease.without by contracts; shard.within, isSpan, has, size, capacity, aTime, aVisibility, anEpoch, aLimit, clone by contracts. -/
import Derived.Laws.CopyRow
import Derived.Laws.CopyOwn
import Derived.Deep.RegionLaw
import Derived.Lib.AppendZerosOnto
import Derived.Shelf.Spec.SlicesGrow
import Derived.Test.YtncgbldcjfbknaaGreatJ14
namespace Go.Proofs.YtncgbldcjfbknaaGreat
open Go.RowKit
set_option linter.unusedVariables false
section
variable {w:World} {B:Nat} {A:Option Addr} {n c:Nat} {l:List Le}
theorem el_under:Tryz.prog.underlying 28=some (.slice (Tryz.prog.elem 28)):=by kernel_rfl
theorem el_elem:Tryz.prog.elem 28=58:=by kernel_rfl
theorem El.upto (h:El w B (.slice A n c) l) (j:Nat) (hj:j≤n):El w B (.slice A j c) (l.take j):=by
 obtain ⟨hn,hl,hm⟩:=h.len
 have hlen:(l.take j).length=j:=by simp;omega
 refine ⟨A,c,by rw [hlen],by rw [hlen];omega,hm,by rw [ecs_len],fun h0=>?_⟩
 rw [hlen] at h0
 obtain ⟨b,o,rfl,hb,hc⟩:=h.rd.2 (by omega)
 refine ⟨b,o,rfl,hb,fun k u hu=>hc k u ?_⟩
 rw [←ecs_take] at hu
 have hk:k<j*8:=by
  have:=(List.getElem?_eq_some_iff.1 hu).1
  simp at this;omega
 rw [←hu,List.getElem?_take_of_lt hk]
theorem El.cut (h:El w B (.slice A n c) l) (k:Nat) (hk:k≤n):El w B (.slice (if c=k then A else A.map (·.add (k*8))) (n - k) (c - k)) (l.drop k):=by
 obtain ⟨hn,hl,hm⟩:=h.len
 refine ⟨_,c - k,by rw [List.length_drop,hn],by simp;omega,by omega,by rw [ecs_len],fun h0=>?_⟩
 rw [List.length_drop] at h0
 obtain ⟨b,o,rfl,hb,hc⟩:=h.rd.2 (by omega)
 rw [if_neg (by omega)]
 refine ⟨b,o+k*8,by rw [Option.map_some,add_mk],hb,fun j u hu=>?_⟩
 rw [Nat.add_assoc]
 refine hc _ u ?_
 rw [←hu,←ecs_drop,List.getElem?_drop]
theorem run_eupto (A:Option Addr) (n c:Nat) (kh:IntKind) (j:Nat) (hj:j≤c):∀ W,(Instr.slice 28 (.slice A n c) none (some (.int kh (j:Int))) none).run Tryz.prog W=.ok (.slice A j c) W:=fun W=>by
 rw [run_slice_h W _ _ _ _ el_under kh _ (by omega) (by omega),el_elem,Tryz.sizeOf58]
 cases A <;> simp [Result.andThen,sliced,Addr.add]
theorem run_ecut (A:Option Addr) (n c:Nat) (kl:IntKind) (k:Nat) (hk:k≤n):∃ A',A' = (if c=k then A else A.map (·.add (k*8)))∧∀ W,(Instr.slice 28 (.slice A n c) (some (.int kl (k:Int))) none none).run Tryz.prog W=.ok (.slice A' (n - k) (c - k)) W:=by
 refine ⟨_,rfl,fun W=>?_⟩
 rw [run_slice_l W _ _ _ _ el_under kl _ (by omega) (by omega),el_elem,Tryz.sizeOf58]
 simp [Result.andThen,sliced]
end
section
variable {P:Program}
theorem run_copy_sized (w:World) (dT sT ty elem:TypeId) (size g o dLen dCap:Nat) (a:Addr) (sLen sCap:Nat) (cur:List Value) (t:TypeId) (cs:List Value)
  (hu:P.underlying dT=some (.slice elem)) (hs:(P.info? elem).map (·.size)=some size)
  (hg:w.heap[g]? = some (.cells cur.toArray t (0,0))) (hn:cs.length=Nat.min sLen dLen*size)
  (hsrc:∀ j v,cs[j]? = some v→w.cell? (a.add j)=some v) (hfit:o+cs.length≤cur.length) (h1:∀ v∈cs,v.oneCell' = true) :
  (Builtin.copy_ #[dT,sT] ty #[.slice (some ⟨g,o,none⟩) dLen dCap,.slice (some a) sLen sCap]).run P w =
   .ok (goInt (Nat.min sLen dLen)) (w.setRow g (splice cur o cs).toArray):=by
 have hl:=run_loadCells_list (P:=P) w a cs hsrc
 have hst:=run_storeCells_at P g o t cs 0 cur.toArray w hg (by simpa using hfit) h1
 cases hq:P.info? elem with
 | none=>simp [hq] at hs
 | some i=>
  have hi:i.size=size:=by simpa [hq] using hs
  have e:w.setRow g (cur.take o++cs++cur.drop (o+cs.length)).toArray=w.setRow g (splice cur o cs).toArray:=by
   unfold splice;rw [List.append_assoc]
  simp [Builtin.copy_,run_underlying hu,Builtin.lenOf,Builtin.firstCells,sizeOf,typeInfo,hq,hi,←hn,hl,hst]
  rw [←e]
  simp
end
abbrev Rw (W:World) (g:Nat) (t:TypeId) (cur:List Value):Prop:=W.heap[g]? = some (.cells cur.toArray t (0,0))
section
variable {W:World} {g base n cap size:Nat} {t e:TypeId} {cur xs:List Value} {v:Value}
theorem Rw.set (h:Rw W g t cur) (o:Nat) (cs:List Value):Rw (W.setRow g (splice cur o cs).toArray) g t (splice cur o cs):=setRow_heap W g _ _ t _ h
theorem Rw.cell (h:Rw W g t cur) {j:Nat} {u:Value} (hj:cur[j]? = some u):W.cell? ⟨g,j,none⟩=some u:=by
 simp [World.cell?,h,hj]
theorem Rw.of_own (h:W.ownsRow base e size v n xs) (h0:0<n):∃ g cap cur,v=.slice (some ⟨g,0,none⟩) n cap∧base≤g∧Rw W g e cur∧n≤cap∧cap≤maxLen∧cur.length=cap*size∧cur.take (n*size)=xs:=by
 rcases h.2 with ⟨_,h⟩ | ⟨g,cap,cur,hv,hb,hh,hl,hm,hs,ht⟩
 ·omega
 ·exact ⟨g,cap,cur.toList,hv,hb,by simpa using hh,hl,hm,by simpa using hs,ht⟩
theorem Rw.own (h:Rw W g e cur) (hb:base≤g) (hl:n≤cap) (hm:cap≤maxLen) (hs:cur.length=cap*size) (ht:cur.take (n*size)=xs):W.ownsRow base e size (.slice (some ⟨g,0,none⟩) n cap) n xs:=by
 refine ⟨?_,.inr ⟨g,cap,cur.toArray,rfl,hb,h,hl,hm,by simpa using hs,by simpa using ht⟩⟩
 rw [←ht,List.length_take,hs]
 exact Nat.min_eq_left (Nat.mul_le_mul_right _ hl)
theorem Rw.lt (h:Rw W g t cur):g<W.heap.size:=(Array.getElem?_eq_some_iff.1 h).1
theorem splice_len (cur:List Value) (o:Nat) (cs:List Value) (h:o+cs.length≤cur.length):(splice cur o cs).length=cur.length:=length_splice cur o cs h
theorem splice_shift {A M B C:List Value} {cur:List Value} (h:cur=A++(B++C)) (hM:M.length≤C.length) :
  splice (splice cur (A.length+M.length) B) A.length M=A++(M++(B++C.drop M.length)):=by
 subst h
 have e1:splice (A++(B++C)) (A.length+M.length) B=(A++(B++C)).take (A.length+M.length)++(B++C.drop M.length):=by
  unfold splice
  congr 2
  rw [show A.length+M.length+B.length=A.length+(B.length+M.length) by omega,List.drop_append,List.drop_eq_nil_of_le (by omega),List.nil_append,show A.length+(B.length+M.length) - A.length=B.length+M.length by omega,List.drop_append,List.drop_eq_nil_of_le (by omega),List.nil_append,show B.length+M.length - B.length=M.length by omega]
 have hT:((A++(B++C)).take (A.length+M.length)).length=A.length+M.length:=by
  rw [List.length_take];simp;omega
 rw [e1]
 unfold splice
 rw [List.take_append,hT,show A.length - (A.length+M.length)=0 by omega,List.take_zero,List.append_nil,List.take_take,Nat.min_eq_left (by omega),List.take_left,List.drop_append,hT,Nat.sub_self,List.drop_zero,List.drop_eq_nil_of_le (by omega),List.nil_append]
theorem splice_two {A M B:List Value} {cur:List Value} (hA:cur.take A.length=A) (hl:A.length+M.length+B.length≤cur.length) :
  (splice (splice cur A.length M) (A.length+M.length) B).take (A.length+M.length+B.length)=A++(M++B):=by
 have e1:splice cur A.length M=A++(M++cur.drop (A.length+M.length)):=by unfold splice;rw [hA]
 have e2:splice (A++(M++cur.drop (A.length+M.length))) (A.length+M.length) B=A++M++(B++cur.drop (A.length+M.length+B.length)):=by
  unfold splice
  rw [show A++(M++cur.drop (A.length+M.length))=(A++M)++cur.drop (A.length+M.length) by simp,List.take_append_of_le_length (by simp),List.take_of_length_le (by simp),List.drop_append,List.drop_eq_nil_of_le (by simp),List.nil_append,List.length_append,List.drop_drop,show A.length+M.length+(A.length+M.length+B.length - (A.length+M.length))=A.length+M.length+B.length by omega]
 rw [e1,e2,List.take_append,List.take_of_length_le (by simp)]
 rw [show A.length+M.length+B.length - (A++M).length=B.length by simp,List.take_append_of_le_length (Nat.le_refl _),List.take_of_length_le (Nat.le_refl _)]
 simp
theorem grown_setRow (w:World) (g:Nat) (cs:Array Value):w.grownBy (w.setRow g cs) (some g):=
 ⟨rfl,rfl,rfl,by simp [World.setRow],fun k _ hne=>setRow_other w g k cs (fun e=>hne (by rw [e]))⟩
theorem Rw.grown {W W' : World} {g:Nat} {t:TypeId} {cur:List Value} {row:Option Nat} (h:Rw W g t cur) (hg:W.grownBy W' row) (hne:some g≠row):Rw W' g t cur:=(hg.block g h.lt hne).trans h
theorem Rw.below {W W' : World} {B g:Nat} {t:TypeId} {cur:List Value} (h:Rw W g t cur) (hb:Below B W W') (hl:g<B):Rw W' g t cur:=(hb.block g hl).trans h
theorem Rw.shape {W:World} {g:Nat} {t:TypeId} {cur:List Value} (h:Rw W g t cur):W.shape? g=some (t,cur.length):=by
 have h:W.heap[g]? = some (.cells cur.toArray t (0,0)):=h
 simp [World.shape?,h]
theorem Rw.free {W:World} {g:Nat} {t:TypeId} {cur:List Value} (h:Rw W g t cur) (o:Nat):W.frozen? ⟨g,o,none⟩=false:=by
 have h:W.heap[g]? = some (.cells cur.toArray t (0,0)):=h
 simp [World.frozen?,h]
theorem Rw.fresh (w:World) (cs:Array Value) (t:TypeId):Rw (w.alloc (.cells cs t)) w.heap.size t cs.toList:=by
 show (w.heap.push (.cells cs t))[w.heap.size]? = some (.cells cs.toList.toArray t (0,0))
 simp
section
variable {P:Program} {ops:Array Oper} {o:Oper} {a:Act} {w:World}
end
end
end Go.Proofs.YtncgbldcjfbknaaGreat
namespace Go.Proofs.YtncgbldcjfbknaaGreat
open Go.RowKit
theorem step_append_rd {P:Program} (w:World) {ops:Array Oper} {o:Oper} {a:Act} {K:Act→World→Prop} {Q:Exit→Act→World→Prop} {E:Prop} (hgd:o.guard=none) (s x:Operand) (t:TypeId)
  (ho:o.op=.call { callee:=.builtin .append,args:=#[s,x],argTypes:=#[t,t] })
  (base:Nat) (e:TypeId) (i:TypeInfo) (z:Value) (size bytes:Nat) (ht:P.underlying t=some (.slice e)) (hi:P.info? e=some i) (hz:i.zero=some z)
  (hsize:i.size=size) (hby:i.bytes=bytes) (hzs:z.cells.size=size) (hsz:0<size)
  (v:Value) (n:Nat) (xs:List Value) (hs:a.eval s=v) (hown:w.ownsRow base e size v n xs)
  (B:Nat) (A:Option Addr) (m c:Nat) (news:List Value) (hx:a.eval x=.slice A m c) (hr:Rd w B size A m news) (h1:∀ u∈news,u.oneCell' = true)
  (h63:n+m≤maxLen) (hbytes:(n+m)*bytes≤140737488355328) (hbase:base≤w.heap.size)
  (h:∀ v' w',w'.ownsRow base e size v' (n+m) (xs++news)→w.grownBy w' v.ownBlock→(v'.ownBlock=v.ownBlock∨v'.ownBlock=some w.heap.size)→K (a.put o.dst v') w') :
  if Region.wanted o (yielded ops a.tmps)=true then Oper.wp P o a w K Q else E:=by
 have hw:Region.wanted o (yielded ops a.tmps)=true:=by simp [Region.wanted,hgd]
 rw [if_pos hw]
 exact wp_append_rd w s x t ho base e i z size bytes ht hi hz hsize hby hzs hsz v n xs hs hown B A m c news hx hr h1 h63 hbytes hbase h
end Go.Proofs.YtncgbldcjfbknaaGreat
namespace Go.Proofs.YtncgbldcjfbknaaGreat
open Go.RowKit
set_option linter.unusedVariables false
theorem info_lease:(Tryz.prog.info? 58).map (fun i=>(i.zero,i.size,i.bytes))=some (some (Le.v zL),8,72):=by kernel_rfl
def EClP (w:World) (l:List Le) (e:Ending) (w' : World):Prop:=∃ v,e=.returned v∧w'.ownsRow w.heap.size 58 8 v l.length (ecs l)∧Below w.heap.size w w'
theorem eclone_end {w w1:World} {l:List Le} {v1:Value} {o:Obj} (hown:w1.ownsRow w.heap.size 58 8 v1 (0+l.length) ([]++ecs l)) (hg:(w.alloc o).grownBy w1 (Value.ownBlock (.slice (some ⟨w.heap.size,0,none⟩) 0 0))):EClP w l (.returned v1) w1:=by
 rw [Nat.zero_add,List.nil_append] at hown
 exact ⟨v1,rfl,hown,(((Below.refl _ _).alloc (Nat.le_refl _) o)).grown hg (by simp) (fun k hk=>by simp [Value.ownBlock] at hk;omega)⟩
set_option maxHeartbeats 2000000 in
theorem eclone_any (A:Option Addr) (n c:Nat) (l:List Le) (w:World) (hv:El w w.heap.size (.slice A n c) l) (h2:n≤1000) :
  Calls Tryz.prog 102 #[.slice A n c] w (EClP w l):=by
 obtain ⟨rfl,hm1,hm2⟩:=hv.len
 obtain ⟨i0,hi0,hz0⟩:=Option.map_eq_some_iff.1 info_lease
 simp only [Prod.mk.injEq] at hz0
 have HI:=Lh hi0
 have HZ:=Lh hz0
 have HV:=Lh hv
 have heq:∀ W,(binOp .eql 28 (.slice A l.length c) (.slice none 0 0)).run Tryz.prog W=.ok (.bool A.isNone) W:=fun W=>Lib.run_eql_slice_nil W _ _ _ _ _ _ _ Tryz.underlying28
 have HRD:=Lh hv.rd
 clear hv hi0 hz0
 cases A with
 | none=>
  have hl:l=[]:=by
   cases l with
   | nil=>rfl
   | cons d l=>obtain ⟨b,o,e,_⟩:=HRD.out.2 (by simp);cases e
  subst hl
  have HP:=Lh (show EClP w [] (.returned (.slice none 0 0)) w from ⟨_,rfl,World.ownsRow_nil w _ _ _,Below.refl _ _⟩)
  simp only [List.length_nil,Option.isNone_none] at heq ⊢
  go_enter Tryz.func102,Tryz.ntmps102
  go_wp2
  go_ret
  exact HP.out
 | some a=>
  simp only [Option.isNone_some] at heq
  go_enter Tryz.func102,Tryz.ntmps102
  go_wp2_with (at_builtin;refine wpList_append_rd _ rfl (.tmp 5) (.tmp 6) 28 rfl w.heap.size 58 i0 _ 8 72 Tryz.underlying28 HI.out HZ.out.1 HZ.out.2.1 HZ.out.2.2 rfl (by omega) (.slice (some ⟨w.heap.size,0,none⟩) 0 0) 0 [] rfl (World.ownsRow_made w #[] 0 (Nat.le_refl _) (Nat.zero_le _) rfl) w.heap.size (some a) l.length c (ecs l) rfl (HV.out.alloc (Nat.le_refl _) _).rd (ecs_one l) (by unfold maxLen;omega) (by omega) (by simp) ?_;intro v1 w1 hown1 hg1 hat1)
  have HP:=Lh (eclone_end hown1 hg1)
  clear hown1 hg1 hat1
  go_wp2
  go_ret
  exact HP.out
theorem egrow_none (w:World):Calls Tryz.prog 204 #[.slice none 0 0,.int .i64 0] w fun e w'=>e=.returned (.slice none 0 0)∧w=w':=by
 go_enter Tryz.func204,Tryz.ntmps204
 go_wp2
 go_ret
 exact ⟨rfl,rfl⟩
set_option maxHeartbeats 1000000 in
theorem egrow_some (n:Nat) (w:World) (h0:0<n) (hn:n≤1000000):Calls Tryz.prog 204 #[.slice none 0 0,.int .i64 n] w fun e w'=>
  ∃ v,e=.returned v∧w'.ownsRow w.heap.size 58 8 v 0 []∧Below w.heap.size w w':=by
 obtain ⟨i0,hi0,hzz⟩:=Option.map_eq_some_iff.1 info_lease
 simp only [Prod.mk.injEq] at hzz
 obtain ⟨hz0,hz1,hz2⟩:=hzz
 have h1:¬((n:Int)<0):=by omega
 have h4:(n:Int) > 0:=by omega
 have hold:(Builtin.firstCells i0.size 0 (.slice none 0 0)).run Tryz.prog w.drew=.ok #[] w.drew:=run_firstCells_none w.drew i0.size 0 0 0
 have hrz:∀ ty,(Builtin.append_ #[28,3] ty #[.slice none 0 0,.int .i64 (n:Int)]).run Tryz.prog w =
   .ok (.slice (some ⟨w.heap.size,0,none⟩) n (grownCap w n 0 58)) (w.drew.alloc (.cells (#[]++Builtin.zeroCells (Le.v zL).cells n++Builtin.zeroCells (Le.v zL).cells (grownCap w n 0 58 - n)) 58)):=fun ty=>by
  have h:=Lib.run_append_grow_zeros (P:=Tryz.prog) w 28 3 ty 58 i0 (Le.v zL) .i64 .i64 Tryz.underlying28 Tryz.underlying3 hi0 hz0 none 0 0 [] hold n (by omega) (by omega) (by omega) (by omega)
   (by rw [hz2];omega)
   (by rw [Nat.zero_add];exact growslice_fits (by omega) (by rw [hz2];omega))
  simpa only [Nat.zero_add] using h
 have hGn:n≤grownCap w n 0 58:=grownCap_ge w _ _ _
 have hGm:grownCap w n 0 58≤maxLen:=grownCap_le_maxLen w n 0 58 (by unfold maxLen;omega)
 obtain ⟨G,hG⟩:∃ G,G=grownCap w n 0 58:=⟨_,rfl⟩
 rw [←hG] at hrz hGn hGm
 have hG63:G≤9223372036854775807:=by unfold maxLen at hGm;omega
 have HM:=Lh hGm
 clear hold hG hGm
 go_enter Tryz.func204,Tryz.ntmps204
 go_wp2_with (at_builtin;refine Lib.wpList_append_run _ rfl _ _ _ _ rfl _ _ rfl rfl _ _ (hrz _) ?_)
 go_ret
 refine ⟨_,rfl,?_,?_⟩
 ·exact World.ownsRow_made (w:=w.drew) _ G (Nat.le_refl _) HM.out (by simp [Builtin.zeroCells];omega)
 ·exact (Below.refl _ _).drew.alloc (Nat.le_refl _) _
theorem egrow_any (n:Nat) (w:World) (hn:n≤1000000):Calls Tryz.prog 204 #[.slice none 0 0,.int .i64 n] w fun e w'=>
  ∃ v,e=.returned v∧w'.ownsRow w.heap.size 58 8 v 0 []∧Below w.heap.size w w':=by
 rcases Nat.eq_zero_or_pos n with rfl | h
 ·exact (egrow_none w).mono fun _ _ ⟨he,hw⟩=>⟨_,he,by subst hw;exact World.ownsRow_nil _ _ _ _,by subst hw;exact Below.refl _ _⟩
 ·exact egrow_some n w h hn
def etot:List (Value×List Le)→List Le
 | []=>[]
 | p::r=>p.2++etot r
theorem etot_take (ps:List (Value×List Le)) (k:Nat) (h:k<ps.length):etot (ps.take (k+1))=etot (ps.take k)++ps[k].2:=by
 induction ps generalizing k with
 | nil=>simp at h
 | cons p r ih=>
  cases k with
  | zero=>simp [etot]
  | succ k=>simp only [List.take_succ_cons,etot,List.getElem_cons_succ,List.append_assoc];rw [ih k (by simpa using h)]
theorem etot_le (ps:List (Value×List Le)) (k:Nat):(etot (ps.take k)).length≤(etot ps).length:=by
 induction ps generalizing k with
 | nil=>simp [etot]
 | cons p r ih=>
  cases k with
  | zero=>simp [etot]
  | succ k=>simp only [List.take_succ_cons,etot,List.length_append];have:=ih k;omega
set_option maxRecDepth 20000 in
set_option maxHeartbeats 2000000 in
theorem econcat_any (vb vo c:Nat) (ps:List (Value×List Le)) (w:World) (hb:vb<w.heap.size) (hc:∀ k (h:k<ps.length),w.cell? ⟨vb,vo+k,none⟩=some ps[k].1)
  (hps:∀ k (h:k<ps.length),El w w.heap.size ps[k].1 ps[k].2) (hn:ps.length≤1024) (ht:(etot ps).length≤1000000) :
  Calls Tryz.prog 164 #[.slice (some ⟨vb,vo,none⟩) ps.length c] w fun e w'=>
   ∃ v,e=.returned v∧w'.ownsRow w.heap.size 58 8 v (etot ps).length (ecs (etot ps))∧Below w.heap.size w w':=by
 obtain ⟨i0,hi0,hzz⟩:=Option.map_eq_some_iff.1 info_lease
 simp only [Prod.mk.injEq] at hzz
 obtain ⟨hz0,hz1,hz2⟩:=hzz
 obtain ⟨L,hL⟩:∃ L,L=ps.length:=⟨_,rfl⟩
 have HL:=Lh hL
 rw [←hL]
 have hL' : L≤1024:=by omega
 have HC:=Lh hc
 have HP:=Lh hps
 clear hL hc hps
 go_enter Tryz.func164,Tryz.ntmps164
 go_wp2
 go_loop [3,5,11] (fun s _ i=>∃ k:Nat,k≤L∧i=.int .i64 k∧s=.int .i64 (etot (ps.take k)).length) (fun _ _ i=>L - (intOf i).toNat)
 case atStart=>exact ⟨0,Nat.zero_le _,rfl,rfl⟩
 case round=>
  obtain ⟨k,hk,rfl,rfl⟩:=hrel
  have hle:=etot_le ps k
  by_cases hlt:k<L
  ·have hkp:k<ps.length:=by have:=HL.out;omega
   have hcell:=HC.out k hkp
   have HT:=Lh (congrArg List.length (etot_take ps k hkp))
   have hle1:=etot_le ps (k+1)
   obtain ⟨A,c1,hA,_,_,hR⟩:=HP.out k hkp
   rw [hA] at hcell
   have HA:=Lh hA
   have HR:=Lh hR
   have hlen:(ps[k].2).length≤1000000:=by have:=HT.out;simp at this;omega
   clear hA hR
   go_wp2
   go_round
   case rel=>exact ⟨k+1,by omega,by go_num,by rw [HT.out];simp⟩
   case measure=>simp [intOf];omega
  ·obtain rfl:k=L:=by omega
   have HE:=Lh (show ps.take k=ps by rw [HL.out];simp)
   have hge:((etot (ps.take k)).length:Int)≤1000000:=by omega
   go_wp2_with fail
   refine (egrow_any (etot (ps.take k)).length w (by omega)).mono ?_
   rintro e w1 ⟨v1,rfl,hown1,hb1⟩
   have Hown1:=Lh hown1
   have Hb1:=Lh hb1
   clear hown1 hb1
   go_wp2
   clear hle hge
   have hk' : k≤1024:=hL'
   go_loopw [6,8,27] (fun s _ i wr=>∃ j:Nat,j≤k∧i=.int .i64 j∧wr.ownsRow w.heap.size 58 8 s (etot (ps.take j)).length (ecs (etot (ps.take j)))∧Below w.heap.size w wr) (fun _ _ i _=>k - (intOf i).toNat)
   case atStart=>exact ⟨0,Nat.zero_le _,rfl,Hown1.out,Hb1.out⟩
   case round=>
    obtain ⟨j,hj,rfl,hown,hbel⟩:=hrel
    have hle:=etot_le ps j
    by_cases hlt:j<k
    ·have hkp:j<ps.length:=by have:=HL.out;omega
     have hcell:=HC.out j hkp
     have HT:=Lh (etot_take ps j hkp)
     have hle1:=etot_le ps (j+1)
     obtain ⟨A,c1,hA,_,_,hR⟩:=HP.out j hkp
     rw [hA] at hcell
     have hlen:(etot (ps.take j)).length+(ps[j].2).length≤1000000:=by have:=congrArg List.length HT.out;simp at this;omega
     rw [←hbel.cell (p:=⟨vb,vo+j,none⟩) hb] at hcell
     have HA:=Lh hA
     have HR:=Lh (hR.below hbel)
     have HO:=Lh hown
     have HB:=Lh hbel
     have hsz:=hbel.size
     clear hA hR hown hbel
     go_wp2_with (at_builtin;refine wpList_append_rd _ rfl _ _ 28 rfl w.heap.size 58 i0 _ 8 72 Tryz.underlying28 hi0 hz0 hz1 hz2 rfl (by omega) _ _ _ rfl HO.out w.heap.size A _ _ _ rfl HR.out (ecs_one _) (by unfold maxLen;omega) (by omega) hsz ?_;intro v2 w2 hown2 hg2 _)
     have hown3:w2.ownsRow w.heap.size 58 8 v2 (etot (ps.take (j+1))).length (ecs (etot (ps.take (j+1)))):=by
      rw [HT.out,ecs_app,List.length_append];exact hown2
     have hb3:Below w.heap.size w w2:=HB.out.grown hg2 hsz (fun g hg=>(World.ownsRow.lt HO.out g hg).1)
     have H3:=Lh hown3
     have HB3:=Lh hb3
     clear hown2 hown3 hg2 hb3
     go_wp2
     go_roundw
     case rel=>exact ⟨j+1,by omega,by go_num,H3.out,HB3.out⟩
     case measure=>simp [intOf];omega
    ·obtain rfl:j=k:=by omega
     have HO:=Lh hown
     have HB:=Lh hbel
     clear hown hbel
     go_wp2
     go_ret
     exact ⟨_,rfl,by have:=HO.out;rwa [HE.out] at this,HB.out⟩
structure Cc2 (W:World) (g:Nat) (v0 v1:Value) (l0 l1:List Le):Prop where
 c0:W.cell? ⟨g,0,none⟩=some v0
 c1:W.cell? ⟨g,1,none⟩=some v1
 lt:g<W.heap.size
 e0:El W W.heap.size v0 l0
 e1:El W W.heap.size v1 l1
theorem Cc2.start {w:World} {v0 v1:Value} {l0 l1:List Le} (t:TypeId) (h0:El w w.heap.size v0 l0) (h1:El w w.heap.size v1 l1):Cc2 (w.alloc (.cells #[v0,v1] t)) w.heap.size v0 v1 l0 l1:=by
 have hb:=(Below.refl w.heap.size w).alloc (Nat.le_refl _) (.cells #[v0,v1] t)
 refine ⟨?_,?_,by simp,(h0.below hb).more hb.size,(h1.below hb).more hb.size⟩
 ·rw [World.cell?_alloc_new];rfl
 ·rw [World.cell?_alloc_new];rfl
theorem Cc2.concat {W:World} {g:Nat} {v0 v1:Value} {l0 l1:List Le} (h:Cc2 W g v0 v1 l0 l1) (c:Nat) (ht:l0.length+l1.length≤1000000) :
  Calls Tryz.prog 164 #[.slice (some ⟨g,0,none⟩) 2 c] W fun e w'=>∃ v,e=.returned v∧w'.ownsRow W.heap.size 58 8 v (l0++l1).length (ecs (l0++l1))∧Below W.heap.size W w':=by
 refine (econcat_any g 0 c [(v0,l0),(v1,l1)] W h.lt ?_ ?_ (by simp) (by simp [etot];omega)).mono ?_
 ·intro k hk
  rw [Nat.zero_add]
  match k,hk with
  | 0,_=>exact h.c0
  | 1,_=>exact h.c1
 ·intro k hk
  match k,hk with
  | 0,_=>exact h.e0
  | 1,_=>exact h.e1
 ·rintro e w' ⟨v,he,ho,hb⟩
  have ht:etot [(v0,l0),(v1,l1)]=l0++l1:=by simp [etot]
  rw [ht] at ho
  exact ⟨v,he,ho,hb⟩
theorem eraseIdx_td (l:List Le) (i:Nat):l.take i++l.drop (i+1)=l.eraseIdx i:=(List.eraseIdx_eq_take_drop_succ l i).symm
def TruW (_:World):Prop:=True
def EOw (w:World) (l:List Le) (e:Ending) (w' : World):Prop:=∃ v,e=.returned v∧w'.ownsRow w.heap.size 58 8 v l.length (ecs l)∧Below w.heap.size w w'
set_option maxHeartbeats 4000000 in
set_option maxRecDepth 20000 in
theorem ewithout_any (A:Option Addr) (n c i:Nat) (l:List Le) (w:World) (hv:El w w.heap.size (.slice A n c) l) (hi:i<n) (h2:n≤1000) :
  Calls Tryz.prog 111 #[.slice A n c,.int .i64 i] w (EOw w (l.eraseIdx i)):=by
 obtain ⟨hn,hm1,hm2⟩:=hv.len
 have hwr:IntKind.i64.wrap ((i:Int)+1)=(i:Int)+1:=IntWalk.i64_in _ (by omega)
 have hcut:=run_eupto A n c .i64 i (by omega)
 obtain ⟨A',hA',hcut0⟩:=run_ecut A n c .i64 (i+1) (by omega)
 have hcut2:∀ W,(Instr.slice 28 (.slice A n c) (some (.int .i64 ((i:Int)+1))) none none).run Tryz.prog W=.ok (.slice A' (n - (i+1)) (c - (i+1))) W:=fun W=>by
  have:=hcut0 W
  rwa [show ((i+1:Nat):Int)=(i:Int)+1 by omega] at this
 have h1:=hv.upto i (by omega)
 have h3:=hv.cut (i+1) (by omega)
 rw [←hA'] at h3
 have H1:=Lh (show Cc2 ((w.alloc (.cells #[.slice A i c,.slice A' (n - (i+1)) (c - (i+1))] 28)).drew) w.heap.size _ _ _ _ from Cc2.start (w:=w.drew) 28 (show El w.drew w.drew.heap.size _ _ from h1) (show El w.drew w.drew.heap.size _ _ from h3))
 have HE:=Lh (eraseIdx_td l i)
 have HLE:=Lh (show (l.take i).length+(l.drop (i+1)).length≤1000000 by simp;omega)
 have HB:=Lh ((Below.refl w.heap.size w).alloc (Nat.le_refl _) (.cells #[.slice A i c,.slice A' (n - (i+1)) (c - (i+1))] 28))
 have HC:=Lh (fun W g (h:Cc2 W g (.slice A i c) (.slice A' (n - (i+1)) (c - (i+1))) (l.take i) (l.drop (i+1)))=>h.concat 2 HLE.out)
 have hic:(i:Int)≤(c:Int):=by omega
 have hin:(i:Int)+1≤(n:Int):=by omega
 have hi0:(0:Int)≤(i:Int)+1:=by omega
 clear hv hn h1 h3 hA' hcut0
 go_enter Tryz.func111,Tryz.ntmps111
 go_wp2
 go_region_held3 (fun W=>TruW W) (exact trivial)
  (first | (go_at_call 164;(with_reducible refine (HC.out _ _ H1.out).mono ?_);rintro e w1 ⟨v1,rfl,ho1,hb1⟩;have HO1:=Lh ho1;have HB1:=Lh hb1;clear ho1 hb1))
 all_goals
  go_wp2
  go_ret
  exact ⟨_,rfl,by have:=HO1.out;rw [HE.out] at this;exact own_low this (by simp),HB.out.drew.trans (HB1.out.mono (by simp))⟩
theorem swithin_any (n lo hi:Int) (w:World):Calls Tryz.prog 92 #[.int .i64 n,.int .i64 lo,.int .i64 hi] w fun e w'=>e=.returned (.bool (wi n lo hi))∧w=w':=by
 by_cases h1:lo≤n
 ·by_cases h2:n≤hi
  ·have H:=Lh (wi_true h1 h2)
   go_enter Tryz.func92,Tryz.ntmps92
   go_wp2
   go_ret
   exact ⟨by rw [H.out];rfl,rfl⟩
  ·have H:=Lh (show wi n lo hi=false from decide_eq_false (fun h=>h2 h.2))
   go_enter Tryz.func92,Tryz.ntmps92
   go_wp2
   go_ret
   exact ⟨by rw [H.out];rfl,rfl⟩
 ·have H:=Lh (show wi n lo hi=false from decide_eq_false (fun h=>h1 h.1))
  go_enter Tryz.func92,Tryz.ntmps92
  go_wp2
  go_ret
  exact ⟨by rw [H.out];rfl,rfl⟩
set_option maxHeartbeats 1000000 in
theorem shas_any (S:Sh) (D:Sx) (r:Int) (w:World):Calls Tryz.prog 116 #[sv S D,.int .i64 r] w fun e w'=>e=.returned (.bool (wi r S.lo S.hi))∧Below w.heap.size w w':=by
 have HB:=Lh ((Below.refl w.heap.size w).alloc (Nat.le_refl _) (.cells #[.bool S.lv,.int .i64 S.lo,.int .i64 S.hi,.slice D.A S.cs.length D.c,.int .i64 S.hd,.int .i64 S.sz,.slice D.A2 S.l.length D.c2,.slice D.A3 S.h.length D.c3] 33))
 have HC:=Lh (fun w=>swithin_any r S.lo S.hi w)
 generalize wi r S.lo S.hi=b at*
 go_enter Tryz.func116,Tryz.ntmps116
 go_wp2_with fail
 refine (HC.out _).mono ?_
 rintro e w1 ⟨rfl,rfl⟩
 go_wp2
 go_ret
 exact ⟨rfl,HB.out⟩
set_option maxHeartbeats 1000000 in
theorem scap_any (S:Sh) (D:Sx) (w:World):Calls Tryz.prog 66 #[sv S D] w fun e w'=>e=.returned (.int .i64 (S.cs.length:Int))∧Below w.heap.size w w':=by
 have HB:=Lh ((Below.refl w.heap.size w).alloc (Nat.le_refl _) (.cells #[.bool S.lv,.int .i64 S.lo,.int .i64 S.hi,.slice D.A S.cs.length D.c,.int .i64 S.hd,.int .i64 S.sz,.slice D.A2 S.l.length D.c2,.slice D.A3 S.h.length D.c3] 33))
 go_enter Tryz.func66,Tryz.ntmps66
 go_wp2
 go_ret
 exact ⟨rfl,HB.out⟩
set_option maxHeartbeats 1000000 in
theorem ssize_any (S:Sh) (D:Sx) (w:World) (h0:0≤S.sz) (h1:S.sz≤100) (h2:S.l.length≤100):Calls Tryz.prog 65 #[sv S D] w fun e w'=>e=.returned (.int .i64 (S.sz+S.l.length))∧Below w.heap.size w w':=by
 have HB:=Lh ((Below.refl w.heap.size w).alloc (Nat.le_refl _) (.cells #[.bool S.lv,.int .i64 S.lo,.int .i64 S.hi,.slice D.A S.cs.length D.c,.int .i64 S.hd,.int .i64 S.sz,.slice D.A2 S.l.length D.c2,.slice D.A3 S.h.length D.c3] 33))
 have hw:wrap64 (S.sz+(S.l.length:Int))=S.sz+(S.l.length:Int):=IntWalk.wrap64_in _ (by omega)
 clear h0 h1 h2
 go_enter Tryz.func65,Tryz.ntmps65
 go_wp2
 go_ret
 exact ⟨congrArg (fun x=>Ending.returned (.int .i64 x)) hw,HB.out⟩
theorem sspan_any (lo hi:Int) (w:World):Calls Tryz.prog 72 #[.int .i64 lo,.int .i64 hi] w fun e w'=>e=.returned (.bool (spB lo hi))∧w=w':=by
 by_cases h1:0≤lo
 ·by_cases h2:lo≤hi
  ·by_cases h3:hi<65536
   ·have H:=Lh (spB_iff.2 ⟨h1,h2,h3⟩)
    go_enter Tryz.func72,Tryz.ntmps72
    go_wp2
    go_ret
    exact ⟨by rw [H.out];rfl,rfl⟩
   ·have H:=Lh (show spB lo hi=false from decide_eq_false (fun h=>h3 h.2.2))
    go_enter Tryz.func72,Tryz.ntmps72
    go_wp2
    go_ret
    exact ⟨by rw [H.out];rfl,rfl⟩
  ·have H:=Lh (show spB lo hi=false from decide_eq_false (fun h=>h2 h.2.1))
   go_enter Tryz.func72,Tryz.ntmps72
   go_wp2
   go_ret
   exact ⟨by rw [H.out];rfl,rfl⟩
 ·have H:=Lh (show spB lo hi=false from decide_eq_false (fun h=>h1 h.1))
  go_enter Tryz.func72,Tryz.ntmps72
  go_wp2
  go_ret
  exact ⟨by rw [H.out];rfl,rfl⟩
abbrev r3 (n lo hi:Int):Value:=.agg #[.int .i64 n,.int .i64 lo,.int .i64 hi]
theorem atime_any (n:Int) (w:World):Calls Tryz.prog 41 #[.int .i64 n] w fun e w'=>e=.returned (r3 n 0 1073741824)∧Below w.heap.size w w':=by
 have HB:=Lh ((Below.refl w.heap.size w).alloc (Nat.le_refl _) (.cells #[.int .i64 0,.int .i64 0,.int .i64 0] 82))
 go_enter Tryz.func41,Tryz.ntmps41
 go_wp2
 exact bodyPost_ret (v:=r3 n 0 1073741824) (by simp only [results,Tryz.results41];go_simp <;> rfl) rfl ⟨rfl,(Below.refl w.heap.size w).alloc (Nat.le_refl _) _⟩
theorem avis_any (n:Int) (w:World):Calls Tryz.prog 42 #[.int .i64 n] w fun e w'=>e=.returned (r3 n 0 1000)∧Below w.heap.size w w':=by
 have HB:=Lh ((Below.refl w.heap.size w).alloc (Nat.le_refl _) (.cells #[.int .i64 0,.int .i64 0,.int .i64 0] 82))
 go_enter Tryz.func42,Tryz.ntmps42
 go_wp2
 exact bodyPost_ret (v:=r3 n 0 1000) (by simp only [results,Tryz.results42];go_simp <;> rfl) rfl ⟨rfl,(Below.refl w.heap.size w).alloc (Nat.le_refl _) _⟩
theorem aepoch_any (n:Int) (w:World):Calls Tryz.prog 43 #[.int .i64 n] w fun e w'=>e=.returned (r3 n 0 65536)∧Below w.heap.size w w':=by
 have HB:=Lh ((Below.refl w.heap.size w).alloc (Nat.le_refl _) (.cells #[.int .i64 0,.int .i64 0,.int .i64 0] 82))
 go_enter Tryz.func43,Tryz.ntmps43
 go_wp2
 exact bodyPost_ret (v:=r3 n 0 65536) (by simp only [results,Tryz.results43];go_simp <;> rfl) rfl ⟨rfl,(Below.refl w.heap.size w).alloc (Nat.le_refl _) _⟩
theorem alimit_any (n:Int) (w:World):Calls Tryz.prog 44 #[.int .i64 n] w fun e w'=>e=.returned (r3 n 1 8)∧Below w.heap.size w w':=by
 have HB:=Lh ((Below.refl w.heap.size w).alloc (Nat.le_refl _) (.cells #[.int .i64 0,.int .i64 0,.int .i64 0] 82))
 go_enter Tryz.func44,Tryz.ntmps44
 go_wp2
 exact bodyPost_ret (v:=r3 n 1 8) (by simp only [results,Tryz.results44];go_simp <;> rfl) rfl ⟨rfl,(Below.refl w.heap.size w).alloc (Nat.le_refl _) _⟩
end Go.Proofs.YtncgbldcjfbknaaGreat
