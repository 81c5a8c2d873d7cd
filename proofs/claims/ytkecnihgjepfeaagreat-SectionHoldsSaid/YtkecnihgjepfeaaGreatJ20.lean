/- What is proved here: parts of the proof: Rwi Rsa Rsn Srh Srn Msp. -/
import Derived.Test.YtkecnihgjepfeaaGreatJ19
namespace Go.Proofs.YtkecnihgjepfeaaGreat
open Go.RowKit
set_option linter.unusedVariables false
set_option linter.unusedSimpArgs false
set_option maxHeartbeats 8000000
set_option maxRecDepth 20000
structure WiAt (w:World) (r z y:Nat) (n:Nat) (hd sz:Int) (f:Nat->Msg) (W:World):Prop where
 rs:RB W r none 0 0 0 0
 row:MRow W z n f
 rb:RB W y (some ⟨z,0,none⟩) n n hd sz
 bel:Below w.heap.size w W
 old:w.heap.size<=r/\r<z/\z<y
section
variable {w W W' : World} {r z y n:Nat} {hd sz:Int} {f:Nat->Msg}
end
attribute [local go_sem ↓] Go.wp_at_zero Go.wp_at_succ
theorem rsame_yes (A A' : Option Addr) (n n' c c' : Nat) (l:List Msg) (w:World) (B B' : Nat) (hv:Ls w B (.slice A n c) l) (hv' : Ls w B' (.slice A' n' c') l) :
  Calls Tryz.prog 19 #[.slice A n c,.slice A' n' c'] w fun e w'=>e=.returned (.bool true)/\Below w.heap.size w w':=by
 obtain ⟨rfl,hm1,hm2⟩:=hv.len
 obtain ⟨rfl,hm1',hm2'⟩:=hv'.len
 have hL:l.length<=9223372036854775807:=by unfold maxLen at hm2;omega
 have HV:=Lh hv
 have HV':=Lh hv'
 have HB:=Lh (Below.refl w.heap.size w)
 clear hv hm1 hm2 hv' hm1' hm2'
 go_enter Tryz.func19,Tryz.ntmps19
 go_wp2
 go_loopw [5] (fun i wr=>∃ k:Nat,k<=l.length/\i=.int .i64 k/\Ls wr B (.slice A l.length c) l/\Ls wr B' (.slice A' l.length c') l/\Below w.heap.size w wr) (fun i _=>l.length - (intOf i).toNat)
 case atStart=>exact ⟨0,by omega,rfl,HV.out,HV'.out,HB.out⟩
 case round=>
  obtain ⟨k,hk,rfl,hv,hv',hb⟩:=hrel
  have HV:=Lh hv
  have HV':=Lh hv'
  have HB:=Lh hb
  clear hv hv' hb
  by_cases hlt:k<l.length
  ·obtain ⟨b,o,rfl,hb,hc⟩:=HV.out.at_ hlt
   obtain ⟨b',o',rfl,hb',hc'⟩:=HV'.out.at_ hlt
   generalize l[k]=M at*
   have hne:=neqm M
   obtain ⟨c0,c1,c2,c3,c4,c5,c6⟩:=hc
   obtain ⟨d0,d1,d2,d3,d4,d5,d6⟩:=hc'
   go_wp2
   go_quiet (fail)
   go_wp2
   go_roundw
   case rel=>exact ⟨k+1,by omega,by go_num,HV.out.drewN _,HV'.out.drewN _,below_drewN HB.out _⟩
   case measure=>simp [intOf];omega
  ·go_wp2
   go_ret
   exact ⟨rfl,HB.out⟩
theorem gsame_yes (A A' : Option Addr) (n n' c c' : Nat) (hd sz:Int) (l:List Msg) (w:World) (B B' : Nat) (hB:B<=w.heap.size) (hB' : B'<=w.heap.size) (hv:Ls w B (.slice A n c) l) (hv' : Ls w B' (.slice A' n' c') l) :
  Calls Tryz.prog 34 #[.agg #[.slice A n c,.int .i64 hd,.int .i64 sz],.agg #[.slice A' n' c',.int .i64 hd,.int .i64 sz]] w fun e w'=>e=.returned (.bool true)/\Below w.heap.size w w':=by
 have HB:=Lh (((Below.refl w.heap.size w).alloc (nLR _) (.cells #[.slice A n c,.int .i64 hd,.int .i64 sz] 66)).alloc (by simp) (.cells #[.slice A' n' c',.int .i64 hd,.int .i64 sz] 66))
 have HS:=Lh (fun w1 (h:Below w.heap.size w w1)=>rsame_yes A A' n n' c c' l w1 B B' (hv.keep fun p hp=>h.cell (Nat.lt_of_lt_of_le hp hB)) (hv'.keep fun p hp=>h.cell (Nat.lt_of_lt_of_le hp hB')))
 clear hv hv' hB hB'
 go_enter Tryz.func34,Tryz.ntmps34
 go_wp2_with fail
 refine (HS.out _ HB.out).mono ?_
 rintro e w1 ⟨rfl,hb⟩
 have HB1:=Lh (HB.out.trans (hb.mono HB.out.size))
 clear hb
 go_wp2
 go_ret
 exact ⟨rfl,HB1.out⟩
structure RoAt (w:World) (B g r y:Nat) (A:Option Addr) (k c hd:Nat) (L:List Msg) (W:World):Prop where
 rb:RB W y A k c hd L.length
 rs:RB W r none 0 0 0 0
 ls:Ls W W.heap.size (.slice A k c) (fil k hd L)
 src:SrcAt W B g
 grow:w.grownBy W (some g)
 nw:Nw (r+1) A
 offy:Off y A
 old:w.heap.size<=r/\r<y/\g<w.heap.size/\B<=g
section
variable {w W W' : World} {B g r y k c hd:Nat} {A:Option Addr} {L:List Msg}
end
def SrNew (w:World) (e:Ending) (w' : World):Prop:=∃ g,e=.returned (.pointer (some ⟨g,0,none⟩))/\SrcAt w' w.heap.size g/\Below w.heap.size w w'
theorem src_new (w:World) (A:Option Addr) (n c:Nat) (zs:List Int) (t:TypeId) (h:Rd w w.heap.size 1 A n (zs.map i64v)) (hn:n<=4000) (hc:n<=c) (hm:c<=maxLen) (hz:∀ z∈zs,-9223372036854775808<=z/\z<=9223372036854775807) :
  SrNew w (.returned (.pointer (some ⟨w.heap.size,0,none⟩))) (w.alloc (.cells #[.slice A n c,.int .i64 0] t)):=
 ⟨_,rfl,⟨nLR _,by simp,A,n,c,0,zs,by omega,hn,hc,hm,by simp [go_sem],by simp [go_sem],by simp [go_sem],h.alloc (nLR _) _,hz⟩,(Below.refl _ _).alloc (nLR _) _⟩
theorem new_src (A:Option Addr) (n c:Nat) (zs:List Int) (w:World) (h:Ns w w.heap.size (.slice A n c) zs):Calls Tryz.prog 5 #[.slice A n c] w (SrNew w):=by
 obtain ⟨hn,hc,hm,hr,hz⟩:=h.parts
 by_cases h4:(4000:Int)<(n:Int)
 ·have ht' : Tryz.prog.underlying 22=some (.slice (Tryz.prog.elem 22)):=by kernel_rfl
  have he:Tryz.prog.elem 22=3:=by kernel_rfl
  have hz8:∀ w,(Go.sizeOf 3).run Tryz.prog w=.ok 1 w:=Tryz.sizeOf3
  have hcut:∀ W,(Instr.slice 22 (.slice A n c) none (some (.int .i64 4000)) none).run Tryz.prog W=.ok (.slice A 4000 c) W:=fun W=>by
   have hq:=run_slice_h W 22 A n c ht' .i64 4000 (by omega) (by omega)
   rw [hq,he,hz8]
   cases A <;> simp [Result.andThen,sliced,Addr.add]
  have hr4:Rd w w.heap.size 1 A 4000 ((zs.take 4000).map i64v):=by
   have hlen:zs.length=n:=hn.symm
   refine ⟨by simp;omega,fun h0=>?_⟩
   obtain ⟨b,o,rfl,hb,hcc⟩:=hr.2 (by omega)
   refine ⟨b,o,rfl,hb,fun k u hu=>hcc k u ?_⟩
   have hk:k<4000:=by
    have:=(List.getElem?_eq_some_iff.1 hu).1
    simp at this;omega
   rw [<-hu,List.map_take,List.getElem?_take_of_lt hk]
  have HN:=Lh (src_new w A 4000 c (zs.take 4000) 83 hr4 (by omega) (by omega) hm (fun z hz'=>hz z (List.mem_of_mem_take hz')))
  clear h hn hc hm hr hz hr4 hz8 he ht'
  go_enter Tryz.func5,Tryz.ntmps5
  go_wp2
  go_ret
  exact HN.out
 ·have HN:=Lh (src_new w A n c zs 83 hr (by omega) hc hm hz)
  clear h hn hc hm hr hz
  go_enter Tryz.func5,Tryz.ntmps5
  go_wp2
  go_ret
  exact HN.out
def spF (M:Msg) (l:Int):Bool:=decide (l<=M.ct)
theorem spent_any (M:Msg) (k:Int) (w:World):Calls Tryz.prog 148 #[M.v,.int .i64 k] w fun e w'=>e=.returned (.bool (spF M k))/\Below w.heap.size w w':=by
 have HB:=Lh ((Below.refl w.heap.size w).alloc (nLR _) (.cells M.cs 79))
 by_cases h:k<=M.ct
 ·have HF:=Lh (show spF M k=true from decide_eq_true h)
  go_enter Tryz.func148,Tryz.ntmps148
  go_wp2
  go_ret
  exact ⟨by rw [HF.out];rfl,HB.out⟩
 ·have HF:=Lh (show spF M k=false from decide_eq_false h)
  go_enter Tryz.func148,Tryz.ntmps148
  go_wp2
  go_ret
  exact ⟨by rw [HF.out];rfl,HB.out⟩
end Go.Proofs.YtkecnihgjepfeaaGreat
