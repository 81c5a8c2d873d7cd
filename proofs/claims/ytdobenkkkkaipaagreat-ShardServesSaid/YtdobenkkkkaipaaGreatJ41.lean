/- What is proved here: '==' and '!=' of a lease and itself; (plain) nothing old is turned by draws; shardqueueref05.Same of two lists that read alike are true; shardqueueref06.SameLeases, Same of two lists, two tables that read alike are true. -/
import Derived.Test.YtdobenkkkkaipaaGreatJ20
namespace Go.Proofs.YtdobenkkkkaipaaGreat
open Go.RowKit
set_option linter.unusedVariables false
theorem eqm_fuel (M:Msg) (f:Nat) (W:World):(Op.equalIn (f+2) 44 M.v M.v).run Tryz.prog W=.ok true W:=by
 have u3:=Tryz.underlying3
 have u9:=Tryz.underlying9
 have hS:Tryz.prog.underlying 44=some (.struct (Tryz.prog.fieldsOf 44)):=by kernel_rfl
 have hp:Tryz.prog.stoodInHeld 44=false:=by kernel_rfl
 rw [show f+2=(f+1)+1 from rfl,run_equalIn_agg W (f+1) 44 _ _ hS hp]
 simp only [Program.fieldsOf,Tryz.underlying44]
 go_simp
theorem eql_in (x:Le) (W:World):(Op.equalIn 10000 56 x.v x.v).run Tryz.prog W=.ok true W:=by
 have u3:=Tryz.underlying3
 have hS:Tryz.prog.underlying 56=some (.struct (Tryz.prog.fieldsOf 56)):=by kernel_rfl
 have hp:Tryz.prog.stoodInHeld 56=false:=by kernel_rfl
 have hM:=fun W=>eqm_fuel x.m 9997 W
 rw [show (10000:Nat)=9999+1 from rfl,run_equalIn_agg W 9999 56 _ _ hS hp]
 simp only [Program.fieldsOf,Tryz.underlying56]
 go_simp
theorem eql (x:Le):∀ W,(binOp .eql 56 x.v x.v).run Tryz.prog W=.ok (.bool true) W:=fun W=>by
 rw [run_eql_struct,eql_in];rfl
theorem neql (x:Le):∀ W,(binOp .neq 56 x.v x.v).run Tryz.prog W=.ok (.bool false) W:=fun W=>by
 rw [run_neq_struct,eql_in];rfl
end Go.Proofs.YtdobenkkkkaipaaGreat
namespace Go.Proofs.YtdobenkkkkaipaaGreat
open Go.RowKit
theorem bel_drewN {B:Nat} {a w:World} (h:Below B a w) (n:Nat):Below B a (w.drewN n):=⟨h.os,h.tape,h.output,h.size,h.block⟩
end Go.Proofs.YtdobenkkkkaipaaGreat
namespace Go.Proofs.YtdobenkkkkaipaaGreat
open Go.RowKit
set_option linter.unusedVariables false
set_option maxHeartbeats 2000000 in
theorem rsame5_yes (A A' : Option Addr) (n n' c c' : Nat) (l:List Du) (w:World) (B B' : Nat) (hv:Dl w B (.slice A n c) l) (hv' : Dl w B' (.slice A' n' c') l) :
  Calls Tryz.prog 169 #[.slice A n c,.slice A' n' c'] w fun e w'=>e=.returned (.bool true)∧Below w.heap.size w w':=by
 obtain ⟨rfl,hm1,hm2⟩:=hv.len
 obtain ⟨rfl,hm1',hm2'⟩:=hv'.len
 have hL:l.length≤9223372036854775807:=by unfold maxLen at hm2;omega
 have HV:=Lh hv
 have HV':=Lh hv'
 have HB:=Lh (Below.refl w.heap.size w)
 clear hv hm1 hm2 hv' hm1' hm2'
 go_enter Tryz.func169,Tryz.ntmps169
 go_wp2
 go_loopw [5] (fun i wr=>∃ k:Nat,k≤l.length∧i=.int .i64 k∧Dl wr B (.slice A l.length c) l∧Dl wr B' (.slice A' l.length c') l∧Below w.heap.size w wr) (fun i _=>l.length - (intOf i).toNat)
 case atStart=>exact ⟨0,by omega,rfl,HV.out,HV'.out,HB.out⟩
 case round=>
  obtain ⟨k,hk,rfl,hv,hv',hb⟩:=hrel
  have HV:=Lh hv
  have HV':=Lh hv'
  have HB:=Lh hb
  clear hv hv' hb
  by_cases hlt:k<l.length
  ·obtain ⟨b,o,rfl,hb,c0,c1⟩:=HV.out.atg hlt
   obtain ⟨b',o',rfl,hb',d0,d1⟩:=HV'.out.atg hlt
   generalize ge l k=M at*
   have hne:=neqd_no M
   go_wp2
   go_quiet (fail)
   go_wp2
   go_roundw
   case rel=>exact ⟨k+1,by omega,by go_num,HV.out.drewN _,HV'.out.drewN _,bel_drewN HB.out _⟩
   case measure=>simp [intOf];omega
  ·go_wp2
   go_ret
   exact ⟨rfl,HB.out⟩
set_option maxHeartbeats 2000000 in
theorem rsamel_yes (A A' : Option Addr) (n n' c c' : Nat) (l:List Le) (w:World) (B B' : Nat) (hv:El w B (.slice A n c) l) (hv' : El w B' (.slice A' n' c') l) :
  Calls Tryz.prog 33 #[.slice A n c,.slice A' n' c'] w fun e w'=>e=.returned (.bool true)∧Below w.heap.size w w':=by
 obtain ⟨rfl,hm1,hm2⟩:=hv.len
 obtain ⟨rfl,hm1',hm2'⟩:=hv'.len
 have hL:l.length≤9223372036854775807:=by unfold maxLen at hm2;omega
 have HV:=Lh hv
 have HV':=Lh hv'
 have HB:=Lh (Below.refl w.heap.size w)
 clear hv hm1 hm2 hv' hm1' hm2'
 go_enter Tryz.func33,Tryz.ntmps33
 go_wp2
 go_loopw [5] (fun i wr=>∃ k:Nat,k≤l.length∧i=.int .i64 k∧El wr B (.slice A l.length c) l∧El wr B' (.slice A' l.length c') l∧Below w.heap.size w wr) (fun i _=>l.length - (intOf i).toNat)
 case atStart=>exact ⟨0,by omega,rfl,HV.out,HV'.out,HB.out⟩
 case round=>
  obtain ⟨k,hk,rfl,hv,hv',hb⟩:=hrel
  have HV:=Lh hv
  have HV':=Lh hv'
  have HB:=Lh hb
  clear hv hv' hb
  by_cases hlt:k<l.length
  ·obtain ⟨b,o,rfl,_⟩:=HV.out.some_ (by omega)
   obtain ⟨b',o',rfl,_⟩:=HV'.out.some_ (by omega)
   obtain ⟨⟨c0,c1,c2,c3,c4,c5,c6,c7⟩,hb⟩:=HV.out.c8 hlt
   obtain ⟨⟨d0,d1,d2,d3,d4,d5,d6,d7⟩,hb'⟩:=HV'.out.c8 hlt
   generalize l[k]=M at*
   have hne:=neql M
   go_wp2
   go_quiet (fail)
   go_wp2
   go_roundw
   case rel=>exact ⟨k+1,by omega,by go_num,HV.out.drewN _,HV'.out.drewN _,bel_drewN HB.out _⟩
   case measure=>simp [intOf];omega
  ·go_wp2
   go_ret
   exact ⟨rfl,HB.out⟩
set_option maxHeartbeats 2000000 in
theorem rtsame_yes (A A' : Option Addr) (n n' c c' : Nat) (l:List Le) (A2 A2' : Option Addr) (n2 n2' c2 c2' : Nat) (h:List Du) (w:World)
  (hv:El w w.heap.size (.slice A n c) l) (hv' : El w w.heap.size (.slice A' n' c') l) (hd:Dl w w.heap.size (.slice A2 n2 c2) h) (hd' : Dl w w.heap.size (.slice A2' n2' c2') h) :
  Calls Tryz.prog 135 #[tv A n c A2 n2 c2,tv A' n' c' A2' n2' c2'] w fun e w'=>e=.returned (.bool true)∧Below w.heap.size w w':=by
 have HB:=Lh (((Below.refl w.heap.size w).alloc (Nat.le_refl _) (.cells #[.slice A n c,.slice A2 n2 c2] 31)).alloc (by simp) (.cells #[.slice A' n' c',.slice A2' n2' c2'] 31))
 have HE:=Lh (fun W (hb:Below w.heap.size w W)=>rsamel_yes A A' n n' c c' l W _ _ (hv.below hb) (hv'.below hb))
 have HD:=Lh (fun W (hb:Below w.heap.size w W)=>rsame5_yes A2 A2' n2 n2' c2 c2' h W _ _ (hd.below hb) (hd'.below hb))
 have HT:=Lh ((TB.start w A n c A2 n2 c2 31).below ((Below.refl (w.heap.size+1) _).alloc (by simp) (.cells #[.slice A' n' c',.slice A2' n2' c2'] 31)) (Nat.lt_succ_self _))
 have HT':=Lh (TB.start (w.alloc (.cells #[.slice A n c,.slice A2 n2 c2] 31)) A' n' c' A2' n2' c2' 31)
 rw [show (w.alloc (.cells #[.slice A n c,.slice A2 n2 c2] 31)).heap.size=w.heap.size+1 by simp] at HT'
 clear hv hv' hd hd'
 go_enter Tryz.func135,Tryz.ntmps135
 go_wp2_with fail
 obtain ⟨p,hp⟩:∃ p,p=w.heap.size:=⟨_,rfl⟩
 obtain ⟨q,hq⟩:∃ q,q=w.heap.size+1:=⟨_,rfl⟩
 rw [←hq] at HT'
 rw [←hp] at HT
 rw [←hq,←hp]
 clear hq hp
 generalize (w.alloc (.cells #[.slice A n c,.slice A2 n2 c2] 31)).alloc (.cells #[.slice A' n' c',.slice A2' n2' c2'] 31)=w2 at*
 refine (HE.out _ HB.out).mono ?_
 rintro e w3 ⟨rfl,hb⟩
 obtain ⟨t0,t1,tl⟩:=HT.out.below hb HT.out.2.2
 obtain ⟨s0,s1,sl⟩:=HT'.out.below hb HT'.out.2.2
 have HB3:=Lh (HB.out.trans (hb.mono HB.out.size))
 clear hb
 go_wp2_with fail
 refine (HD.out _ HB3.out).mono ?_
 rintro e w4 ⟨rfl,hb⟩
 have HB4:=Lh (HB3.out.trans (hb.mono HB3.out.size))
 clear hb
 go_wp2
 go_ret
 exact ⟨rfl,HB4.out⟩
end Go.Proofs.YtdobenkkkkaipaaGreat
