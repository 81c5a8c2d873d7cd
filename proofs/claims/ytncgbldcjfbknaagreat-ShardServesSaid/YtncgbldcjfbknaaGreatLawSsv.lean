/- What is proved here: shardqueuelaw07.ShardServes returns true for every input and leaves its argument as it was. No condition. -/
import Derived.Test.YtncgbldcjfbknaaGreatJ40
import Derived.Test.YtncgbldcjfbknaaGreatJ30
import Derived.ProofKit
import Derived.OpenShut
import Derived.ShutString
import Derived.ChangeOld
import Derived.Deep.RegionHeld3
import Derived.Deep.CutBlock
import Derived.Deep.QuietTactic
import Derived.BigQuiet
namespace Go.Proofs.YtncgbldcjfbknaaGreat
open Go.RowKit
set_option linter.unusedVariables false
set_option maxHeartbeats 16000000 in
set_option maxRecDepth 20000 in
theorem ShardServes_walk (w:World) (a0:Option Addr) (l0 c0:Nat) (zs:List Int) (hz:Ns w w.heap.size (.slice a0 l0 c0) zs) :
  Calls Tryz.prog 7 #[.slice a0 l0 c0] w fun e w'=>e=.returned (.bool true)∧Below w.heap.size w w':=by
 have HN:=Lh (new_src a0 l0 c0 zs w hz)
 have HAW:=Lh (fun W=>awake7_any W)
 clear hz
 go_enter Tryz.func7,Tryz.ntmps7
 go_wp2_with fail
 refine HN.out.mono ?_
 rintro e w1 ⟨g,rfl,hs,hb⟩
 have HW1:=Lh hb
 have HS1:=Lh hs
 have HBG:=Lh (show w.heap.size≤g from hs.1)
 have HG1:=Lh hs.2.1
 clear hb hs HN
 go_wp2_with fail
 refine (shard_any w.heap.size g _ HS1.out).mono ?_
 rintro e w2 ⟨S,D,rfl,hS,hn,hr,hs,hg⟩
 have HSR:=Lh (sr_len7 hS)
 have H3:=Lh (show CvAt w g w2.heap.size S D (w2.alloc (.cells #[.bool S.lv,.int .i64 S.lo,.int .i64 S.hi,.slice D.A S.cs.length D.c,.int .i64 S.hd,.int .i64 S.sz,.slice D.A2 S.l.length D.c2,.slice D.A3 S.h.length D.c3] 33)) from
  ⟨hs.alloc _,SAt.made 33 (below_only HW1.out hg HBG.out (Nat.le_refl _)) hr,hn.off HG1.out,hs.2.1⟩)
 clear hS hn hr hs hg HS1 HW1
 go_wp2
 obtain ⟨p,hp⟩:∃ p,p=w2.heap.size:=⟨_,rfl⟩
 rw [←hp] at H3 ⊢
 clear hp
 generalize w2.alloc (.cells #[.bool S.lv,.int .i64 S.lo,.int .i64 S.hi,.slice D.A S.cs.length D.c,.int .i64 S.hd,.int .i64 S.sz,.slice D.A2 S.l.length D.c2,.slice D.A3 S.h.length D.c3] 33)=w3 at*
 have HSO:=Lh (fun W (S:Sh) (D:Sx) (h:CvAt w g p S D W)=>some_any w.heap.size g W h.src)
 have HHO:=Lh (fun W (S:Sh) (D:Sx) (h:CvAt w g p S D W) (hl:S.l.length≤1000)=>handle_any w.heap.size g S D W h.src h.sa.sr h.off hl)
 go_loopw [5] (fun iv wr=>∃ (i:Nat),iv=.int .i64 i∧i≤4∧CvAt w g p S D wr) (fun iv _=>4 - (intOf iv).toNat)
 case atStart=>exact ⟨0,rfl,by omega,H3.out⟩
 case round=>
  clear H3
  obtain ⟨i,rfl,hi,hh⟩:=hrel
  have HH:=Lh hh
  clear hh
  by_cases hlt:i<4
  ·have hlt' : (i:Int)<4:=by omega
   obtain ⟨t0,t1,t2,t3,t4,t5,t6,t7,tl⟩:=HH.out.sa.s8.facts
   go_wp2_with fail
   clear t0 t1 t2 t3 t4 t5 t6 t7 tl
   refine (HHO.out _ _ _ HH.out HSR.out).mono ?_
   rintro e w4 ⟨H,rfl,hs,hg⟩
   have H4:=Lh (HH.out.turn hs hg)
   clear hs hg HH
   go_wp2_with fail
   refine (HSO.out _ _ _ H4.out).mono ?_
   rintro e w5 ⟨N,rfl,hs,hg⟩
   have H5:=Lh (H4.out.turn hs hg)
   clear hs hg H4
   go_upto_region 7 with (fail)
   have HP:=Lh (SvB.start H5.out H N 40 37)
   generalize (w5.alloc (.cells #[.int .i64 H.id,.int .i64 H.gn,.int .i64 H.rt,.int .i64 H.ht] 40)).alloc (.cells #[.int .i64 N.mx,.int .i64 N.now,.int .i64 N.vis,.int .i64 N.ep,.int .i64 N.lim,.int .i64 N.k,.int .i64 N.mid,.int .i64 N.rt] 37)=w6 at*
   obtain ⟨q,hq⟩:∃ q,q=w5.heap.size+1:=⟨_,rfl⟩
   rw [←hq] at HP ⊢
   clear hq
   obtain ⟨u,hu⟩:∃ u,u=w5.heap.size:=⟨_,rfl⟩
   rw [←hu] at HP ⊢
   clear hu H5 HSO HHO
   have HTE:=Lh (fun W (k:SvB w g p u q S D H N W)=>tells7_any S D H N W k.cv.sa.sr)
   have HSE:=Lh (fun W M (k:SvB w g p u q S D H N W)=>serves7_any S D M H N W k.cv.sa.sr)
   have HOD:=Lh (fun W x (k:SvB w g p u q S D H N W)=>odd_any w.heap.size g W k.cv.src x S.lo S.hi)
   have HRA:=Lh (fun W (k:SvB w g p u q S D H N W)=>range_any w.heap.size g W k.cv.src 1 30 (by omega) (by omega) (by omega))
   have HK0:=Lh HP.out.k
   have HP0:=Lh (HP.out.below (Below.refl _ _).drew)
   clear HP
   have HP:=HP0
   clear HP0
   have HK:=Lh HP.out.k
   go_region_held3 (fun W=>SvK p u q S D H N W)
    (first | with_reducible exact HK.out | with_reducible exact HK0.out)
    (first
     | (go_at_call 33;(with_reducible refine (HTE.out _ HP.out).mono ?_);rintro e w7 ⟨rfl,hb⟩;have HP:=Lh (HP.out.below hb);have HK:=Lh HP.out.k;clear hb)
     | (go_at_call 34;(with_reducible refine (HSE.out _ _ HP.out).mono ?_);rintro e w7 ⟨rfl,hb⟩;have HP:=Lh (HP.out.below hb);have HK:=Lh HP.out.k;clear hb)
     | (go_at_call 35;(with_reducible refine (HOD.out _ _ HP.out).mono ?_);rintro e w7 ⟨M,rfl,-,hs,hg⟩;have HP:=Lh (HP.out.turn hs hg);have HK:=Lh HP.out.k;clear hs hg)
     | (go_at_call 22;(with_reducible refine (HRA.out _ HP.out).mono ?_);rintro e w7 ⟨z,rfl,-,-,hs,hg⟩;have HP:=Lh (HP.out.turn hs hg);have HK:=Lh HP.out.k;clear hs hg))
   all_goals
    go_wp2
    go_roundw
    case rel=>exact ⟨i+1,by go_num,by omega,HP.out.cv⟩
    case measure=>simp [intOf];omega
  ·have hge' : ¬(i:Int)<4:=by omega
   go_wp2_with fail
   refine (n_any w.heap.size g _ HH.out.src 4 (by omega) (by omega)).mono ?_
   rintro e w4 ⟨z,rfl,z1,z2,hs,hg⟩
   have H4:=Lh (HH.out.turn hs hg)
   clear hs hg HH
   go_upto_block 2 with (fail)
   go_cut [4] (fun s4 wx=>s4=.pointer (some ⟨p,0,none⟩)∧∃ (S' : Sh),S'.l=S.l∧Hid (CvAt w g p S' D wx))
   case first=>
    have hpl:=H4.out.sa.s8.lt
    obtain ⟨⟨t0,t1,t2,t3,t4,t5,t6,t7,tl⟩,⟨f0,f1,f2,f3,f4,f5,f6,f7⟩⟩:=H4.out.sa.s8.all
    rcases (by omega:z=0∨z=1∨z=2∨z=3) with rfl | rfl | rfl | rfl
    ·have H5:=Lh (H4.out.set0 (!S.lv))
     go_wp2_with fail
     go_meet
     exact ⟨rfl,⟨!S.lv,S.lo,S.hi,S.cs,S.hd,S.sz,S.l,S.h⟩,rfl,H5⟩
    ·go_wp2_with fail
     go_meet
     exact ⟨rfl,⟨S.lv,wrap64 (S.lo+1),S.hi,S.cs,S.hd,S.sz,S.l,S.h⟩,rfl,Lh (H4.out.set1 _)⟩
    ·go_wp2_with fail
     refine (n_any w.heap.size g _ H4.out.src 65536 (by omega) (by omega)).mono ?_
     rintro e w5 ⟨y,rfl,-,-,hs,hg⟩
     have H5:=Lh (H4.out.turn hs hg)
     clear hs hg t0 t1 t2 t3 t4 t5 t6 t7 tl f0 f1 f2 f3 f4 f5 f6 f7 hpl
     have hpl:=H5.out.sa.s8.lt
     obtain ⟨⟨t0,t1,t2,t3,t4,t5,t6,t7,tl⟩,⟨f0,f1,f2,f3,f4,f5,f6,f7⟩⟩:=H5.out.sa.s8.all
     have H6:=Lh (H5.out.set2 y)
     go_wp2_with fail
     go_meet
     exact ⟨rfl,⟨S.lv,S.lo,y,S.cs,S.hd,S.sz,S.l,S.h⟩,rfl,H6⟩
    ·go_wp2_with fail
     go_meet
     exact ⟨rfl,S,rfl,H4⟩
   case rest=>
    clear H4
    obtain ⟨rfl,S',hSl,H5⟩:=hcut
    have HSL:=Lh (show S'.l.length≤1000 by rw [hSl];exact HSR.out)
    clear hSl HSR
    have HP:=Lh (show CvAt w g p S' D wc from H5.out)
    have HTE:=Lh (fun W H N (k:CvAt w g p S' D W)=>tells7_any S' D H N W k.sa.sr)
    have HSE:=Lh (fun W M H N (k:CvAt w g p S' D W)=>serves7_any S' D M H N W k.sa.sr)
    have HME:=Lh (fun W x lo hi (k:CvAt w g p S' D W)=>message_any w.heap.size g W k.src x lo hi)
    have HHA:=Lh (fun W (k:CvAt w g p S' D W)=>handle_any w.heap.size g S' D W k.src k.sa.sr k.off HSL.out)
    have HSM:=Lh (fun W (k:CvAt w g p S' D W)=>some_any w.heap.size g W k.src)
    have HK0:=Lh HP.out.sa.k8
    have HP0:=Lh (HP.out.below (Below.refl _ _).drew)
    clear HP H5 HSO HHO
    have HP:=HP0
    clear HP0
    have HK:=Lh HP.out.sa.k8
    go_wp2_with fail
    go_region_held3 (fun W=>K8 p S' D W)
     (first | with_reducible exact HK.out | with_reducible exact HK0.out)
     (first
      | (go_at_call 33;(with_reducible refine (HTE.out _ _ _ HP.out).mono ?_);rintro e w7 ⟨rfl,hb⟩;have HP:=Lh (HP.out.below hb);have HK:=Lh HP.out.sa.k8;clear hb)
      | (go_at_call 34;(with_reducible refine (HSE.out _ _ _ _ HP.out).mono ?_);rintro e w7 ⟨rfl,hb⟩;have HP:=Lh (HP.out.below hb);have HK:=Lh HP.out.sa.k8;clear hb)
      | (go_at_call 36;(with_reducible refine (HME.out _ _ _ _ HP.out).mono ?_);rintro e w7 ⟨M,rfl,-,-,-,-,-,-,-,hs,hg⟩;have HP:=Lh (HP.out.turn hs hg);have HK:=Lh HP.out.sa.k8;clear hs hg)
      | (go_at_call 12;(with_reducible refine (HHA.out _ HP.out).mono ?_);rintro e w7 ⟨H,rfl,hs,hg⟩;have HP:=Lh (HP.out.turn hs hg);have HK:=Lh HP.out.sa.k8;clear hs hg)
      | (go_at_call 11;(with_reducible refine (HSM.out _ HP.out).mono ?_);rintro e w7 ⟨N,rfl,hs,hg⟩;have HP:=Lh (HP.out.turn hs hg);have HK:=Lh HP.out.sa.k8;clear hs hg)
      | (go_at_call 21;(with_reducible refine (HAW.out _).mono ?_);rintro e w7 ⟨rfl,hb⟩;have HP:=Lh (HP.out.below hb);have HK:=Lh HP.out.sa.k8;clear hb))
    all_goals
     go_wp2
     go_ret
     exact ⟨rfl,HP.out.sa.bel⟩
/-! The row's step, as the guide's shell has it. -/
namespace shardServes
open Go.ChangeShapes Go.WideShapes Go.ChangeAt
open Go.ChangeMaps (open_string shut_string)
theorem own:ownKnob Tryz.prog.godebug=none:=by kernel_rfl
theorem laidOut:laidOutB Tryz.prog=true:=by kernel_rfl
set_option maxRecDepth 100000 in
theorem lifted (os:Os) (started:os.Started) (H:Type) (enc:TypeId×Value→H) :
  ReturnsInHanded {} Tryz.checked os 7 .any (Rows.shardServesSpec.pre6 enc Tryz.prog Tryz.f7 Rows.shardServesRow.domain false) (Rows.shardServesSpec.post enc Tryz.prog Tryz.f7 false true false false):=by
 refine returnsInHanded_of_change (C:=Tryz.checked) own started (by kernel_rfl) Tryz.func7
  (ChangeSpec.witness6 (enc:=enc) (C:=Tryz.checked) false ⟨#[],#[.slice none 0 0],[]⟩ 8 (by kernel_rfl) (by kernel_rfl) (by kernel_rfl) (by kernel_rfl)) ?_
 intro W base args ds gs before hval0 hW hcnd _
 have hval:∀ (j:Nat) t v,Tryz.f7.params[j]? = some t→args[j]? = some v→Value.okWide Tryz.prog W .any base t v:=hval0
 have hW':=hW
 obtain ⟨p,q,hA0,hV,rfl,hfz,hnd⟩:=hW
 have hA:DataW.TrodAll enc Tryz.prog W 0 (fun _=>true) true Tryz.f7.params.toList args.toList ds p:=hA0
 rw [Tryz.params7] at hA hval
 obtain ⟨v0,vs0,d0,ds0,p0,q0,hargs,rfl,rfl,h0,r0⟩:=trodAll_cons hA
 obtain ⟨rfl,rfl,rfl⟩:=trodAll_nil r0
 obtain rfl:args = #[v0]:=by cases args;simp_all
 obtain ⟨rfl,rfl⟩:=trodVars_none hV
 obtain ⟨a0,len0,cap0,rfl⟩:=okWide_slice Tryz.underlying22 (hval 0 22 v0 rfl rfl)
 have k0:=h0
 have lt0:∀ x∈p0,x.block<W.heap.size:=by obtain ⟨m,hm⟩:=k0;exact DataW.trod_lt m _ _ _ hm
 obtain ⟨z0,w0⟩:∃ zs,Ns W W.heap.size (.slice a0 len0 cap0) zs:=by
  obtain ⟨fuel,hf⟩:=h0
  rcases open_ints Tryz.underlying22 Tryz.underlying3 (by kernel_rfl) hf with ⟨hcs,_⟩ | ⟨x,l,c,zs,hcs,_,hl,hm,hz,_,hcell,hwz⟩
  ·simp [Value.cells] at hcs
   obtain ⟨rfl,rfl,rfl⟩:=hcs
   exact ⟨[],Ns.nil⟩
  ·simp [Value.cells] at hcs
   obtain ⟨rfl,rfl,rfl⟩:=hcs
   exact Ns.of_cells hl hm (by simpa using hz) hcell hwz
 clear hA0 hval0
 refine (ShardServes_walk W a0 len0 cap0 z0 w0).mono fun e W' ⟨he,bel⟩=>?_
 subst he
 exact ⟨_,rfl,_,_,_,[],_,[],hW',trodAll_mk1 (shut_bool Tryz.underlying4 _),(trodAll_cons_mk (Below.trod laidOut (by kernel_rfl) (of_decide_eq_true (by kernel_rfl)) k0 bel lt0) trodAll_mk0),rfl,bel.frame _,fun h=>by cases h⟩
theorem over:Rows.shardServesRow.holds Tryz.pinned (OpenSpec.ofChange Rows.shardServesSpec):=
 OpenClaim.holds_of_wide 7 Tryz.f7 rfl rfl rfl rfl rfl rfl rfl ⟨rfl,rfl,rfl,rfl,rfl⟩ rfl rfl rfl rfl rfl (by kernel_rfl) Tryz.func7 (by kernel_rfl)
  (of_decide_eq_true (by kernel_rfl)) (by unfold Func.isWrapper;first | (rw [if_pos (by decide +kernel)];kernel_rfl) | (rw [if_neg (by decide +kernel)];exact ⟨rfl,rfl⟩))
  (fun os started H enc _=>lifted os started H enc)
theorem proved:Rows.ShardServesSaid:=over
#print axioms proved
end shardServes
end Go.Proofs.YtncgbldcjfbknaaGreat
