/- What is proved here: shardqueuelaw07.ShardFull returns true for every input. No condition. -/
import Derived.Test.YtncgbldcjfbknaaGreatJ26
import Derived.ProofKit
import Derived.OpenShut
import Derived.ShutString
import Derived.ChangeOld
namespace Go.Proofs.YtncgbldcjfbknaaGreat
open Go.RowKit
set_option linter.unusedVariables false
/-- The message that is put at step i. -/
def fuM (i:Int):Msg:=⟨i,0,0,0,0,0,⟨#[]⟩⟩
theorem fuM_ok {i:Int} (h1:1≤i) (h2:i≤1000):vf (fuM i)=0:=by
 have e:hv (fuM i)=true:=by
  show hv ⟨i,0,0,0,0,0,⟨#[]⟩⟩=true
  simp [hv,wi]
  omega
 unfold vf
 rw [if_pos e,if_neg (by show ¬(16:Int)<((0:Nat):Int);omega)]
def fuL (m:Nat):List Msg:=(List.range m).map (fun j:Nat=>fuM ((j:Int)+1))
theorem fuL_succ (m:Nat):fuL (m+1)=fuL m++[fuM ((m:Int)+1)]:=by unfold fuL;rw [List.range_succ,List.map_append];rfl
theorem fuL_len (m:Nat):(fuL m).length=m:=by simp [fuL]
theorem fuL_mem {m:Nat} {M:Msg} (h:M∈fuL m):∃ j:Nat,j<m∧M=fuM ((j:Int)+1):=by
 obtain ⟨j,hj,e⟩:=List.mem_map.1 h
 exact ⟨j,List.mem_range.1 hj,e.symm⟩
/-- The shard that stores m messages. -/
def fuV (k m:Nat):Vs:=⟨0,65535,k,0,fuL m,[],[]⟩
theorem fu_fits {k m:Nat} (h2:k≤12) (hm:m<k):Fits (fuV k m) (fuM ((m:Int)+1)):=by
 refine ⟨fuM_ok (by omega) (by omega),by show (0:Int)≤0∧(0:Int)≤65535;omega,by show (fuL m).length+0<k;rw [fuL_len];omega,fun N hN=>?_⟩
 have hN' : N∈fuL m:=by
  rcases List.mem_append.1 hN with h | h
  ·exact h
  ·cases h
 obtain ⟨j,hj,e⟩:=fuL_mem hN'
 rw [e]
 show (j:Int)+1≠(m:Int)+1
 omega
theorem fu_ok {k:Nat} (h1:1≤k) (h2:k≤12):∀ m,m≤k→(fuV k m).Ok
 | 0,_=>(new_sh h1 h2 (lo:=0) (hi:=65535) (by decide)).2.2
 | m+1,h=>by
  have:=(fu_ok h1 h2 m (by omega)).push (fu_fits h2 (by omega))
  rw [show (fuV k m).push (fuM ((m:Int)+1))=fuV k (m+1) from by show Vs.mk 0 65535 k 0 (fuL m++[fuM ((m:Int)+1)]) [] []=Vs.mk 0 65535 k 0 (fuL (m+1)) [] [];rw [fuL_succ]] at this
  exact this
theorem fu_put {k m:Nat} (h1:1≤k) (h2:k≤12) (hm:m<k):puS (fuV k m).sh (fuM ((m:Int)+1))=0∧spuR (fuV k m).sh (fuM ((m:Int)+1))=(fuV k (m+1)).sh:=by
 obtain ⟨e1,e2⟩:=put_sh (fu_ok h1 h2 m (by omega)) (fu_fits h2 hm)
 refine ⟨e1,e2.trans ?_⟩
 show (Vs.mk 0 65535 k 0 (fuL m++[fuM ((m:Int)+1)]) [] []).sh=_
 rw [←fuL_succ]
 rfl
theorem fu_full {k:Nat} (h1:1≤k) (h2:k≤12) {i:Int} (hi:1≤i) (hi2:i≤1000):puS (fuV k k).sh (fuM i)=3∧spuR (fuV k k).sh (fuM i)=zS:=by
 have e:puS (fuV k k).sh (fuM i)=3:=puS_3 (by rw [(fu_ok h1 h2 k (Nat.le_refl _)).ex true];rfl) (fuM_ok hi hi2) (by show wi 0 0 65535=true;decide) (by
  show ((fuL k).length:Int)+((0:Nat):Int)=(fil k 0 (fuL k)).length
  rw [fil_len,fuL_len];omega)
 exact ⟨e,by unfold spuR;rw [if_neg (by rw [e];decide)]⟩
theorem fu_st {k m:Nat} (h1:1≤k) (h2:k≤12) (hm:m≤k):stF (fuV k m).sh=m:=by
 unfold stF
 rw [(fu_ok h1 h2 m hm).ex true]
 show ((fuL m).length:Int)+((0:Nat):Int)=m
 rw [fuL_len];omega
theorem and_31 (n:Int):bits .and .i64 n 31=n % 32:=and_ones n 5 31 (by omega) (by omega)
set_option maxHeartbeats 8000000 in
set_option maxRecDepth 20000 in
theorem ShardFull_walk (w:World) (a0:Int) (w0:(Lit.int .i64 a0).wf=true) (a1:Int) (w1:(Lit.int .i64 a1).wf=true) :
  Calls Tryz.prog 6 #[.int .i64 a0,.int .i64 a1] w fun e w'=>e=.returned (.bool true)∧Below w.heap.size w w':=by
 obtain ⟨k,hk1,hk2,hcap⟩:∃ k:Nat,1≤k∧k≤12∧wrap64 (1+(bits .and .i64 a0 65535).tmod 12)=(k:Int):=by
  obtain ⟨r,hr,r0,r1⟩:∃ r,bits .and .i64 a0 65535=r∧0≤r∧r≤65535:=⟨_,and_ffff a0,by omega,by omega⟩
  rw [hr,Int.tmod_eq_emod_of_nonneg r0]
  refine ⟨(1+r % 12).toNat,by omega,by omega,?_⟩
  rw [IntWalk.wrap64_in _ (by omega)]
  omega
 obtain ⟨N,hN1,hN⟩:∃ N:Nat,N≤31∧bits .and .i64 a1 31=(N:Int):=⟨(a1 % 32).toNat,by omega,by rw [and_31];omega⟩
 obtain ⟨S,hS⟩:∃ S:Nat→Sh,S=fun m=>(fuV k m).sh:=⟨_,rfl⟩
 have HNW:=Lh (fun W=>show Calls Tryz.prog 31 #[.int .i64 (k:Int),.int .i64 0,.int .i64 65535] W (SE W (S 0) 0) from by
  obtain ⟨e1,e2,-⟩:=new_sh hk1 hk2 (lo:=0) (hi:=65535) (by decide)
  have h:=snew_any k 0 65535 W
  rw [e1,e2] at h
  rw [hS]
  exact h)
 have HPU:=Lh (fun m (hm:m<k) (i:Nat) (hi:i=m+1) D W (q:SR W W.heap.size (S m) D)=>show Calls Tryz.prog 32 #[sv (S m) D,.agg #[.int .i64 (i:Int),.int .i64 0,.int .i64 0,.int .i64 0,.int .i64 0,.int .i64 0,.string ⟨#[]⟩]] W (SE W (S i) 0) from by
  subst hi
  have h:=sput_any (S m) D (fuM ((m:Int)+1)) W q
  rw [hS] at h ⊢
  simp only at h ⊢
  rw [(fu_put hk1 hk2 hm).1,(fu_put hk1 hk2 hm).2] at h
  exact h)
 have HPF:=Lh (fun (i:Nat) (h1:1≤i) (h2:i≤1000) D W (q:SR W W.heap.size (S k) D)=>show Calls Tryz.prog 32 #[sv (S k) D,.agg #[.int .i64 (i:Int),.int .i64 0,.int .i64 0,.int .i64 0,.int .i64 0,.int .i64 0,.string ⟨#[]⟩]] W (SE W zS 3) from by
  have h:=sput_any (S k) D (fuM (i:Int)) W q
  rw [hS] at h ⊢
  simp only at h ⊢
  rw [(fu_full hk1 hk2 (i:=i) (by omega) (by omega)).1,(fu_full hk1 hk2 (i:=i) (by omega) (by omega)).2] at h
  exact h)
 have HST:=Lh (fun m (hm:m≤k) D W (q:SR W W.heap.size (S m) D)=>show Calls Tryz.prog 24 #[sv (S m) D] W (VlT W (m:Int)) from by
  have h:=sstored_any (S m) D W q
  rw [hS] at h ⊢
  simp only at h ⊢
  rw [fu_st hk1 hk2 hm] at h
  exact h)
 have HAW:=Lh (fun W=>awake7_any W)
 clear hS w0 w1
 go_enter Tryz.func6,Tryz.ntmps6
 go_wp2_with fail
 refine (HNW.out _).mono ?_
 rintro e w2 ⟨D0,rfl,hn,hr,hb⟩
 have H0:=Lh (SAt.made 33 hb hr)
 clear hn hr hb
 obtain ⟨a,ha⟩:∃ a,a=w2.heap.size:=⟨_,rfl⟩
 go_wp2
 rw [←ha] at H0 ⊢
 clear ha hcap hN
 generalize w2.alloc (.cells #[.bool (S 0).lv,.int .i64 (S 0).lo,.int .i64 (S 0).hi,.slice D0.A (S 0).cs.length D0.c,.int .i64 (S 0).hd,.int .i64 (S 0).sz,.slice D0.A2 (S 0).l.length D0.c2,.slice D0.A3 (S 0).h.length D0.c3] 33)=w3 at*
 go_loopw [7] (fun i wr=>∃ (i' : Nat) (D:Sx),i=.int .i64 i'∧1≤i'∧i'≤N+1∧Hid (SAt w a (S (min (i' - 1) k)) D wr)) (fun i _=>N+1 - (intOf i).toNat)
 case atStart=>exact ⟨1,D0,rfl,Nat.le_refl _,by omega,by rw [show min (1 - 1) k=0 by simp];exact H0⟩
 case round=>
  clear H0
  obtain ⟨i,D,rfl,hi1,hi2,HA⟩:=hrel
  by_cases hle:i≤N
  ·have hle' : (i:Int)≤(N:Int):=by omega
   by_cases hlt:i - 1<k
   ·have hm:min (i - 1) k=i - 1:=by omega
    rw [hm] at HA
    have HPP:=Lh (fun D W q=>HPU.out (i - 1) hlt i (by omega) D W q)
    have HMN:=Lh (show min (i+1 - 1) k=i by omega)
    generalize S (i - 1)=S1 at*
    generalize hS2:S i=S2 at*
    have HS2:=Lh hS2
    clear hm hlt hS2
    obtain ⟨t0,t1,t2,t3,t4,t5,t6,t7,tl⟩:=HA.out.s8.facts
    go_wp2_with fail
    clear t0 t1 t2 t3 t4 t5 t6 t7 tl
    refine (HPP.out _ _ HA.out.sr).mono ?_
    rintro e w4 ⟨D4,rfl,hn,hr,hb⟩
    have HA4:=Lh (HA.out.below hb)
    have HA5:=Lh (show SAt w a S2 D4 (((((((((w4.setCell ⟨a,0,none⟩ (.bool S2.lv)).setCell ⟨a,1,none⟩ (.int .i64 S2.lo)).setCell ⟨a,2,none⟩ (.int .i64 S2.hi)).setCell ⟨a,3,none⟩ (.slice D4.A S2.cs.length D4.c)).setCell ⟨a,4,none⟩ (.int .i64 S2.hd)).setCell ⟨a,5,none⟩ (.int .i64 S2.sz)).setCell ⟨a,6,none⟩ (.slice D4.A2 S2.l.length D4.c2)).setCell ⟨a,7,none⟩ (.slice D4.A3 S2.h.length D4.c3)).alloc (.cells #[.bool S2.lv,.int .i64 S2.lo,.int .i64 S2.hi,.slice D4.A S2.cs.length D4.c,.int .i64 S2.hd,.int .i64 S2.sz,.slice D4.A2 S2.l.length D4.c2,.slice D4.A3 S2.h.length D4.c3] 33)) from (HA4.out.put hr (hn.off HA.out.lt)).alloc _)
    clear hn hr hb
    obtain ⟨⟨t0,t1,t2,t3,t4,t5,t6,t7,tl⟩,⟨f0,f1,f2,f3,f4,f5,f6,f7⟩⟩:=HA4.out.s8.all
    go_wp2
    go_roundw
    case rel=>exact ⟨i+1,D4,by go_num,by omega,by omega,by rw [HMN.out,HS2.out];exact HA5⟩
    case measure=>simp [intOf];omega
   ·have hm:min (i - 1) k=k:=by omega
    rw [hm] at HA
    have HMN:=Lh (show min (i+1 - 1) k=k by omega)
    have HPP:=Lh (fun D W q=>HPF.out i hi1 (by omega) D W q)
    have HSS:=Lh (fun D W q=>HST.out k (Nat.le_refl _) D W q)
    generalize hS1:S k=S1 at*
    have HS1:=Lh hS1
    clear hm hS1
    obtain ⟨t0,t1,t2,t3,t4,t5,t6,t7,tl⟩:=HA.out.s8.facts
    go_wp2_with fail
    clear t0 t1 t2 t3 t4 t5 t6 t7 tl
    refine (HPP.out _ _ HA.out.sr).mono ?_
    rintro e w4 ⟨D4,rfl,hn,hr,hb⟩
    have HA4:=Lh ((HA.out.below hb).alloc (.cells #[.bool zS.lv,.int .i64 zS.lo,.int .i64 zS.hi,.slice D4.A zS.cs.length D4.c,.int .i64 zS.hd,.int .i64 zS.sz,.slice D4.A2 zS.l.length D4.c2,.slice D4.A3 zS.h.length D4.c3] 33))
    clear hn hr hb
    obtain ⟨t0,t1,t2,t3,t4,t5,t6,t7,tl⟩:=HA4.out.s8.facts
    go_wp2_with fail
    clear t0 t1 t2 t3 t4 t5 t6 t7 tl
    refine (HSS.out _ _ HA4.out.sr).mono ?_
    rintro e w5 ⟨rfl,hb⟩
    have HA5:=Lh (HA4.out.below hb)
    clear hb
    go_wp2
    go_roundw
    case rel=>exact ⟨i+1,D,by go_num,by omega,by omega,by rw [HMN.out,HS1.out];exact HA5⟩
    case measure=>simp [intOf];omega
  ·have hi:i=N+1:=by omega
   subst hi
   have hm:min (N+1 - 1) k=min N k:=by simp
   rw [hm] at HA
   have HSS:=Lh (fun D W q=>HST.out (min N k) (by omega) D W q)
   have HMM:=Lh (show ((min N k:Nat):Int)=min (N:Int) (k:Int) by omega)
   rw [HMM.out] at HSS
   generalize S (min N k)=S1 at*
   clear hm
   obtain ⟨t0,t1,t2,t3,t4,t5,t6,t7,tl⟩:=HA.out.s8.facts
   go_wp2_with fail
   clear t0 t1 t2 t3 t4 t5 t6 t7 tl
   refine (HSS.out _ _ HA.out.sr).mono ?_
   rintro e w5 ⟨rfl,hb⟩
   have HA5:=Lh (HA.out.below hb)
   clear hb
   go_wp2_with fail
   refine (HAW.out _).mono ?_
   rintro e w6 ⟨rfl,hb⟩
   have HA6:=Lh (HA5.out.below hb)
   clear hb
   go_wp2
   go_ret
   exact ⟨rfl,HA6.out.bel⟩
/-! The row's step, as the guide's shell has it. -/
namespace shardFull
open Go.ChangeShapes Go.WideShapes Go.ChangeAt
open Go.ChangeMaps (open_string shut_string)
theorem own:ownKnob Tryz.prog.godebug=none:=by kernel_rfl
theorem laidOut:laidOutB Tryz.prog=true:=by kernel_rfl
set_option maxRecDepth 100000 in
theorem lifted (os:Os) (started:os.Started) (H:Type) (enc:TypeId×Value→H) :
  ReturnsInHanded {} Tryz.checked os 6 .any (Rows.shardFullSpec.pre6 enc Tryz.prog Tryz.f6 Rows.shardFullRow.domain false) (Rows.shardFullSpec.post enc Tryz.prog Tryz.f6 false true false false):=by
 refine returnsInHanded_of_change (C:=Tryz.checked) own started (by kernel_rfl) Tryz.func6
  (ChangeSpec.witness6 (enc:=enc) (C:=Tryz.checked) false ⟨#[],#[.int .i64 0,.int .i64 0],[]⟩ 8 (by kernel_rfl) (by kernel_rfl) (by kernel_rfl) (by kernel_rfl)) ?_
 intro W base args ds gs before hval0 hW hcnd _
 have hval:∀ (j:Nat) t v,Tryz.f6.params[j]? = some t→args[j]? = some v→Value.okWide Tryz.prog W .any base t v:=hval0
 have hW':=hW
 obtain ⟨p,q,hA0,hV,rfl,hfz,hnd⟩:=hW
 have hA:DataW.TrodAll enc Tryz.prog W 0 (fun _=>true) true Tryz.f6.params.toList args.toList ds p:=hA0
 rw [Tryz.params6] at hA hval
 obtain ⟨v0,vs0,d0,ds0,p0,q0,hargs,rfl,rfl,h0,r0⟩:=trodAll_cons hA
 obtain ⟨v1,vs1,d1,ds1,p1,q1,rfl,rfl,rfl,h1,r1⟩:=trodAll_cons r0
 obtain ⟨rfl,rfl,rfl⟩:=trodAll_nil r1
 obtain rfl:args = #[v0,v1]:=by cases args;simp_all
 obtain ⟨rfl,rfl⟩:=trodVars_none hV
 obtain ⟨a0,rfl,rfl,rfl,w0⟩:=open_int Tryz.underlying3 (hval 0 3 v0 rfl rfl) h0
 obtain ⟨a1,rfl,rfl,rfl,w1⟩:=open_int Tryz.underlying3 (hval 1 3 v1 rfl rfl) h1
 clear hA0 hval0
 simp only [List.append_nil] at hW'
 refine (ShardFull_walk W a0 w0 a1 w1).mono fun e W' ⟨he,bel⟩=>?_
 subst he
 exact ⟨_,rfl,_,_,_,[],_,[],hW',trodAll_mk1 (shut_bool Tryz.underlying4 _),(trodAll_cons_mk (shut_int Tryz.underlying3 w0) (trodAll_cons_mk (shut_int Tryz.underlying3 w1) trodAll_mk0)),rfl,bel.frame _,fun h=>by cases h⟩
theorem over:Rows.shardFullRow.holds Tryz.pinned (OpenSpec.ofChange Rows.shardFullSpec):=
 OpenClaim.holds_of_wide 6 Tryz.f6 rfl rfl rfl rfl rfl rfl rfl ⟨rfl,rfl,rfl,rfl,rfl⟩ rfl rfl rfl rfl rfl (by kernel_rfl) Tryz.func6 (by kernel_rfl)
  (of_decide_eq_true (by kernel_rfl)) (by unfold Func.isWrapper;first | (rw [if_pos (by decide +kernel)];kernel_rfl) | (rw [if_neg (by decide +kernel)];exact ⟨rfl,rfl⟩))
  (fun os started H enc _=>lifted os started H enc)
/-- The statement. -/
theorem proved:Rows.ShardFullSaid:=over
#print axioms proved
end shardFull
end Go.Proofs.YtncgbldcjfbknaaGreat
