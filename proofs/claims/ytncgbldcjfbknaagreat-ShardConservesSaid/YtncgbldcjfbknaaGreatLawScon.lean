/- What is proved here: shardqueuelaw07.ShardConserves returns true for every input and leaves its argument as it was. No condition. -/
import Derived.Test.YtncgbldcjfbknaaGreatJ35
import Derived.Test.YtncgbldcjfbknaaGreatJ32
import Derived.ProofKit
import Derived.OpenShut
import Derived.ShutString
import Derived.ChangeOld
import Derived.Deep.RegionHeld3
import Derived.Deep.CutBlock
import Derived.Deep.QuietTactic
import Derived.BigQuiet
namespace Go.Proofs.YtncgbldcjfbknaaGreat
open Go.RowKit
set_option linter.unusedVariables false
set_option maxHeartbeats 16000000 in
set_option maxRecDepth 20000 in
theorem scP_first:scP.val:=by
 intro w a0 l0 c0 zs y1 w1 g w2 y2 y3 y4 p w3 wr u2 u6 u7 u8 u9 u10 u11 u12 u13 u14 y6 y7 y8 y9 y10 y11 y12 y13 y14 u28 y15 y16 y17 y18 y19 y20 y21 y22 y23 y24 u39 y25 y26 y27 y28 y29 y30 y31 y32 y33 y34 u50 y35 y36 y37 y38 y39 y40 y41 y42 y43 y44 y45 y46 y47 y48 y49 y50 y51 u68 y52 y53 y54 y55 y56 y57 y58 y59 y60 y61 y62 y63 y64 u82 y65 y66 y67 y68 y69 y70 y71 y72 y73 y74 y75 y76 y77 u96 y78 y79 y80 y81 y82 y83 y84 y85 y86 y87 y88 y89 y90 y91 y92 y93 y94 y95 y96 y97 y98 y99 y100 y101 y102 y103 y104 y105 y106 y107 y108 y109 y110 y111 y112 y113 y114 y115 y116 y117 y118 y119 y120 y121 y122 y123 y124 y125 y126 y127 y128 y129 y130 y131 y132 y133 y134 y135 y136 y137 y138 y139 y140 y141 i S D y142 wc u19 u20 u21 u22 u23 u24 u25 u26 u27 u29 u30 u31 u32 u33 u34 u35 u36 u37 u38 u40 u41 u42 u43 u44 u45 u46 u47 u48 u49 u51 u52 u53 u54 u55 u56 u57 u58 u59 u60 u61 u62 u63 u64 u65 u66 u67 u69 u70 u71 u72 u73 u74 u75 u76 u77 u78 u79 u80 u81 u83 u84 u85 u86 u87 u88 u89 u90 u91 u92 u93 u94 u95 u97 u98 u99 u100 u101 u102 u103 u104 u105 u106 u107 u108 u109 u110 u111 u112 u113 u114 u115 u116 u117 u118 u119 u120 u121 u122 u123 u124 u125 u126 u127 u128 u129 u130 u131 u132 u133 u134 u135 u136 u137 u138 u139 u140 u141 u142 u143 u144 u145 u146 u147 u148 u149 u150 u151 u152 u153 u154 u155 u156 u157 u158 u159 u160 w4 y143 y145 HP0 HP HSO HHO t0 t1 t2 t3 t4 t5 t6 t7 tl y147 y148 y149 y150
 go_region_held3 (fun W=>K8 p S D W)
  (first | (refine HSK.out _ ?_;repeat' (first | with_reducible exact HBZ.out | with_reducible refine cal ?_ ?_ | with_reducible refine cst ?_ ?_ | with_reducible refine cdr ?_ | omega | (simp;omega))) | with_reducible exact HP0.out.k8 | with_reducible exact HP.out.k8 | with_reducible exact (HP.out.aq0 37).k8 | with_reducible exact (HP.out.au0 40).k8 | with_reducible exact (HP.out.qu0 37 40).k8 | with_reducible exact (HP.out.uq0 37 40).k8 | with_reducible exact (HP0.out.aq0 37).drew.k8 | with_reducible exact (HP0.out.au0 40).drew.k8 | with_reducible exact (HP0.out.qu0 37 40).drew.k8 | with_reducible exact (HP0.out.uq0 37 40).drew.k8)
  (first
  | (go_at_call 11;(first | (have HV:=Lh HP.out;with_reducible refine (HSO.out _ _ _ HV.out).mono ?_) | (have HV:=Lh (HP.out.aq0 37);with_reducible refine (HSO.out _ _ _ HV.out).mono ?_) | (have HV:=Lh (HP.out.au0 40);with_reducible refine (HSO.out _ _ _ HV.out).mono ?_) | (have HV:=Lh (HP.out.qu0 37 40);with_reducible refine (HSO.out _ _ _ HV.out).mono ?_) | (have HV:=Lh (HP.out.uq0 37 40);with_reducible refine (HSO.out _ _ _ HV.out).mono ?_) | (have HV:=Lh (HP0.out.aq0 37).drew;with_reducible refine (HSO.out _ _ _ HV.out).mono ?_) | (have HV:=Lh (HP0.out.au0 40).drew;with_reducible refine (HSO.out _ _ _ HV.out).mono ?_) | (have HV:=Lh (HP0.out.qu0 37 40).drew;with_reducible refine (HSO.out _ _ _ HV.out).mono ?_) | (have HV:=Lh (HP0.out.uq0 37 40).drew;with_reducible refine (HSO.out _ _ _ HV.out).mono ?_));rintro e w5 ⟨N,rfl,hs,hg⟩;have HP:=Lh (HV.out.turn hs hg);have HSK:=Lh (fun W' hb=>k8_below (W':=W') HP.out hb);have HBZ:=Lh (Below.refl (p+1) w5);have hpl:=HP.out.cn.sa.s8.lt;(try (obtain ⟨⟨n0,n1,n2,n3,n4,n5,n6,n7,nl⟩,m0,m1,m2,m3,m4,m5,m6,m7⟩:=HP.out.qf.1.all;have npl:=HP.out.qf.2));(try (obtain ⟨⟨h0,h1,h2,h3,hl⟩,f0,f1,f2,f3⟩:=HP.out.uf.1.all;have hpl2:=HP.out.uf.2));(try (obtain ⟨e1,e2⟩:=HP.out.nq));clear HV hs hg)
  | (go_at_call 12;(first | (have HV:=Lh HP.out;with_reducible refine (HHO.out _ _ _ HV.out).mono ?_) | (have HV:=Lh (HP.out.aq0 37);with_reducible refine (HHO.out _ _ _ HV.out).mono ?_) | (have HV:=Lh (HP.out.au0 40);with_reducible refine (HHO.out _ _ _ HV.out).mono ?_) | (have HV:=Lh (HP.out.qu0 37 40);with_reducible refine (HHO.out _ _ _ HV.out).mono ?_) | (have HV:=Lh (HP.out.uq0 37 40);with_reducible refine (HHO.out _ _ _ HV.out).mono ?_) | (have HV:=Lh (HP0.out.aq0 37).drew;with_reducible refine (HHO.out _ _ _ HV.out).mono ?_) | (have HV:=Lh (HP0.out.au0 40).drew;with_reducible refine (HHO.out _ _ _ HV.out).mono ?_) | (have HV:=Lh (HP0.out.qu0 37 40).drew;with_reducible refine (HHO.out _ _ _ HV.out).mono ?_) | (have HV:=Lh (HP0.out.uq0 37 40).drew;with_reducible refine (HHO.out _ _ _ HV.out).mono ?_));rintro e w5 ⟨H,rfl,hs,hg⟩;have HP:=Lh (HV.out.turn hs hg);have HSK:=Lh (fun W' hb=>k8_below (W':=W') HP.out hb);have HBZ:=Lh (Below.refl (p+1) w5);have hpl:=HP.out.cn.sa.s8.lt;(try (obtain ⟨⟨n0,n1,n2,n3,n4,n5,n6,n7,nl⟩,m0,m1,m2,m3,m4,m5,m6,m7⟩:=HP.out.qf.1.all;have npl:=HP.out.qf.2));(try (obtain ⟨⟨h0,h1,h2,h3,hl⟩,f0,f1,f2,f3⟩:=HP.out.uf.1.all;have hpl2:=HP.out.uf.2));(try (obtain ⟨e1,e2⟩:=HP.out.nq));clear HV hs hg))
 all_goals
  go_wp2_with fail
  go_meet
  first
  | (have HZ:=Lh (cnb_1 HP.out N H 37 40);exact ⟨_,_,N,H,rfl,rfl,HZ⟩)
  | (have HZ:=Lh (cnb_2 HP.out N H 37 40);exact ⟨_,_,N,H,rfl,rfl,HZ⟩)
  | (have HZ:=Lh (cnb_3 HP.out N H 40);exact ⟨_,_,N,H,rfl,rfl,HZ⟩)
  | (have HZ:=Lh (cnb_4 HP.out N H);exact ⟨_,_,N,H,rfl,rfl,HZ⟩)
  | (have HZ:=Lh (cnb_5 HP.out N H 37);exact ⟨_,_,N,H,rfl,rfl,HZ⟩)
theorem ShardConserves_walk (w:World) (a0:Option Addr) (l0 c0:Nat) (zs:List Int) (hz:Ns w w.heap.size (.slice a0 l0 c0) zs) :
  Calls Tryz.prog 3 #[.slice a0 l0 c0] w fun e w'=>e=.returned (.bool true)∧Below w.heap.size w w':=
 scP.property scP_first w a0 l0 c0 zs hz
/-! The row's step, as the guide's shell has it. -/
namespace shardConserves
open Go.ChangeShapes Go.WideShapes Go.ChangeAt
open Go.ChangeMaps (open_string shut_string)
theorem own:ownKnob Tryz.prog.godebug=none:=by kernel_rfl
theorem laidOut:laidOutB Tryz.prog=true:=by kernel_rfl
set_option maxRecDepth 100000 in
theorem lifted (os:Os) (started:os.Started) (H:Type) (enc:TypeId×Value→H) :
  ReturnsInHanded {} Tryz.checked os 3 .any (Rows.shardConservesSpec.pre6 enc Tryz.prog Tryz.f3 Rows.shardConservesRow.domain false) (Rows.shardConservesSpec.post enc Tryz.prog Tryz.f3 false true false false):=by
 refine returnsInHanded_of_change (C:=Tryz.checked) own started (by kernel_rfl) Tryz.func3
  (ChangeSpec.witness6 (enc:=enc) (C:=Tryz.checked) false ⟨#[],#[.slice none 0 0],[]⟩ 8 (by kernel_rfl) (by kernel_rfl) (by kernel_rfl) (by kernel_rfl)) ?_
 intro W base args ds gs before hval0 hW hcnd _
 have hval:∀ (j:Nat) t v,Tryz.f3.params[j]? = some t→args[j]? = some v→Value.okWide Tryz.prog W .any base t v:=hval0
 have hW':=hW
 obtain ⟨p,q,hA0,hV,rfl,hfz,hnd⟩:=hW
 have hA:DataW.TrodAll enc Tryz.prog W 0 (fun _=>true) true Tryz.f3.params.toList args.toList ds p:=hA0
 rw [Tryz.params3] at hA hval
 obtain ⟨v0,vs0,d0,ds0,p0,q0,hargs,rfl,rfl,h0,r0⟩:=trodAll_cons hA
 obtain ⟨rfl,rfl,rfl⟩:=trodAll_nil r0
 obtain rfl:args = #[v0]:=by cases args;simp_all
 obtain ⟨rfl,rfl⟩:=trodVars_none hV
 obtain ⟨a0,len0,cap0,rfl⟩:=okWide_slice Tryz.underlying22 (hval 0 22 v0 rfl rfl)
 have k0:=h0
 have lt0:∀ x∈p0,x.block<W.heap.size:=by obtain ⟨m,hm⟩:=k0;exact DataW.trod_lt m _ _ _ hm
 obtain ⟨z0,w0⟩:∃ zs,Ns W W.heap.size (.slice a0 len0 cap0) zs:=by
  obtain ⟨fuel,hf⟩:=h0
  rcases open_ints Tryz.underlying22 Tryz.underlying3 (by kernel_rfl) hf with ⟨hcs,_⟩ | ⟨x,l,c,zs,hcs,_,hl,hm,hz,_,hcell,hwz⟩
  ·simp [Value.cells] at hcs
   obtain ⟨rfl,rfl,rfl⟩:=hcs
   exact ⟨[],Ns.nil⟩
  ·simp [Value.cells] at hcs
   obtain ⟨rfl,rfl,rfl⟩:=hcs
   exact Ns.of_cells hl hm (by simpa using hz) hcell hwz
 clear hA0 hval0
 refine (ShardConserves_walk W a0 len0 cap0 z0 w0).mono fun e W' ⟨he,bel⟩=>?_
 subst he
 exact ⟨_,rfl,_,_,_,[],_,[],hW',trodAll_mk1 (shut_bool Tryz.underlying4 _),(trodAll_cons_mk (Below.trod laidOut (by kernel_rfl) (of_decide_eq_true (by kernel_rfl)) k0 bel lt0) trodAll_mk0),rfl,bel.frame _,fun h=>by cases h⟩
theorem over:Rows.shardConservesRow.holds Tryz.pinned (OpenSpec.ofChange Rows.shardConservesSpec):=
 OpenClaim.holds_of_wide 3 Tryz.f3 rfl rfl rfl rfl rfl rfl rfl ⟨rfl,rfl,rfl,rfl,rfl⟩ rfl rfl rfl rfl rfl (by kernel_rfl) Tryz.func3 (by kernel_rfl)
  (of_decide_eq_true (by kernel_rfl)) (by unfold Func.isWrapper;first | (rw [if_pos (by decide +kernel)];kernel_rfl) | (rw [if_neg (by decide +kernel)];exact ⟨rfl,rfl⟩))
  (fun os started H enc _=>lifted os started H enc)
/-- The statement. -/
theorem proved:Rows.ShardConservesSaid:=over
#print axioms proved
end shardConserves
end Go.Proofs.YtncgbldcjfbknaaGreat
