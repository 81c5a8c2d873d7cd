/- What is proved here: slices.Clone of slots, of stripes and of messages by contracts: the copies are the call's own; due.Remove by a contract; lease.removed, lease.Release by contracts; Shc; clone.Shard by a contract, for the texts of shard. -/
import Derived.Test.YtncgbldcjfbknaaGreatJ20
import Derived.Test.YtncgbldcjfbknaaGreatJ18
namespace Go.Proofs.YtncgbldcjfbknaaGreat
open Go.RowKit
set_option linter.unusedVariables false
theorem info_mgc:(Tryz.prog.info? 56).map (fun i=>(i.zero,i.size,i.bytes))=some (some (Msg.v zM),7,64):=by kernel_rfl
def MGClP (w:World) (l:List Msg) (e:Ending) (w' : World):Prop:=∃ v,e=.returned v∧w'.ownsRow w.heap.size 56 7 v l.length (lcs l)∧Below w.heap.size w w'
theorem mgclone_end {w w1:World} {l:List Msg} {v1:Value} {o:Obj} (hown:w1.ownsRow w.heap.size 56 7 v1 (0+l.length) ([]++lcs l)) (hg:(w.alloc o).grownBy w1 (Value.ownBlock (.slice (some ⟨w.heap.size,0,none⟩) 0 0))):MGClP w l (.returned v1) w1:=by
 rw [Nat.zero_add,List.nil_append] at hown
 exact ⟨v1,rfl,hown,(((Below.refl _ _).alloc (Nat.le_refl _) o)).grown hg (by simp) (fun k hk=>by simp [Value.ownBlock] at hk;omega)⟩
set_option maxHeartbeats 2000000 in
theorem mgclone_any (A:Option Addr) (n c:Nat) (l:List Msg) (w:World) (hv:Ls w w.heap.size (.slice A n c) l) (h2:n≤1000) :
  Calls Tryz.prog 104 #[.slice A n c] w (MGClP w l):=by
 obtain ⟨rfl,hm1,hm2⟩:=hv.len
 obtain ⟨i0,hi0,hz0⟩:=Option.map_eq_some_iff.1 info_mgc
 simp only [Prod.mk.injEq] at hz0
 have HI:=Lh hi0
 have HZ:=Lh hz0
 have HV:=Lh hv
 have heq:∀ W,(binOp .eql 25 (.slice A l.length c) (.slice none 0 0)).run Tryz.prog W=.ok (.bool A.isNone) W:=fun W=>Lib.run_eql_slice_nil W _ _ _ _ _ _ _ Tryz.underlying25
 have HRD:=Lh hv.rd
 clear hv hi0 hz0
 cases A with
 | none=>
  have hl:l=[]:=by
   cases l with
   | nil=>rfl
   | cons d l=>obtain ⟨b,o,e,_⟩:=HRD.out.2 (by simp);cases e
  subst hl
  have HP:=Lh (show MGClP w [] (.returned (.slice none 0 0)) w from ⟨_,rfl,World.ownsRow_nil w _ _ _,Below.refl _ _⟩)
  simp only [List.length_nil,Option.isNone_none] at heq ⊢
  go_enter Tryz.func104,Tryz.ntmps104
  go_wp2
  go_ret
  exact HP.out
 | some a=>
  simp only [Option.isNone_some] at heq
  go_enter Tryz.func104,Tryz.ntmps104
  go_wp2_with (at_builtin;refine wpList_append_rd _ rfl (.tmp 5) (.tmp 6) 25 rfl w.heap.size 56 i0 _ 7 64 Tryz.underlying25 HI.out HZ.out.1 HZ.out.2.1 HZ.out.2.2 rfl (by omega) (.slice (some ⟨w.heap.size,0,none⟩) 0 0) 0 [] rfl (World.ownsRow_made w #[] 0 (Nat.le_refl _) (Nat.zero_le _) rfl) w.heap.size (some a) l.length c (lcs l) rfl (HV.out.alloc (Nat.le_refl _) _).rd (lcs_one l) (by unfold maxLen;omega) (by omega) (by simp) ?_;intro v1 w1 hown1 hg1 hat1)
  have HP:=Lh (mgclone_end hown1 hg1)
  clear hown1 hg1 hat1
  go_wp2
  go_ret
  exact HP.out
set_option maxHeartbeats 2000000 in
theorem dremove_any (A:Option Addr) (n c:Nat) (l:List Du) (id:Int) (w:World) (hv:Dl w w.heap.size (.slice A n c) l) :
  Calls Tryz.prog 159 #[.slice A n c,.int .i64 id] w (DlE w (rmR l id) (hrmE l id)):=by
 obtain ⟨rfl,hm1,hm2⟩:=hv.len
 have HV:=Lh hv
 have HVA:=Lh (fun w1 hv=>dvalid_any A l.length c l w1 hv)
 have HFI:=Lh (fun w1 hv=>dfind_any A l.length c l id w1 hv)
 clear hv hm1 hm2
 by_cases h0:vaF l=0
 ·have h12:=(vaF_zero h0).1
  by_cases hi:ixD l id<0
  ·have hE:hrmE l id=4:=by unfold hrmE;rw [if_neg (by simpa using h0),if_pos hi]
   have HR:=Lh (show rmR l id=[] by unfold rmR;rw [hE];rfl)
   rw [h0] at HVA
   rw [hE]
   generalize ixD l id=r at*
   clear h0 hE
   go_enter Tryz.func159,Tryz.ntmps159
   go_wp2_with fail
   refine (HVA.out _ HV.out).mono ?_
   rintro e w1 ⟨rfl,hb⟩
   have HB1:=Lh hb
   clear hb
   go_wp2_with fail
   refine (HFI.out _ (HV.out.up HB1.out)).mono ?_
   rintro e w2 ⟨rfl,hb⟩
   have HB2:=Lh (HB1.out.trans (hb.mono HB1.out.size))
   clear hb
   go_wp2
   exact bodyPost_ret (v:=.tuple #[.slice none 0 0,.int .i64 4]) (by simp only [results,Tryz.results159];go_simp <;> rfl) rfl ⟨none,0,by rw [HR.out];rfl,nw_none,by rw [HR.out];exact Dl.nil,HB2.out⟩
  ·have hE:hrmE l id=0:=by unfold hrmE;rw [if_neg (by simpa using h0),if_neg hi]
   obtain ⟨_,k,hk,hke,_⟩:=hrmE_zero hE
   obtain ⟨m,hm⟩:∃ m,l.length=m+1:=⟨l.length - 1,by omega⟩
   have HR:=Lh (show rmR l id=cuF l k by unfold rmR;rw [if_pos hE,hke];rfl)
   rw [h0] at HVA
   rw [hE]
   rw [hke] at HFI
   rw [hm] at HVA HFI HV ⊢
   have HW:=Lh (fun w1 hv=>dwithout_any A m c k l w1 hv (by omega) (by omega))
   have hk0:¬((k:Int)<0):=by omega
   clear h0 hE hi hk hke hm h12
   go_enter Tryz.func159,Tryz.ntmps159
   go_wp2_with fail
   refine (HVA.out _ HV.out).mono ?_
   rintro e w1 ⟨rfl,hb⟩
   have HB1:=Lh hb
   clear hb
   go_wp2_with fail
   refine (HFI.out _ (HV.out.up HB1.out)).mono ?_
   rintro e w2 ⟨rfl,hb⟩
   have HB2:=Lh (HB1.out.trans (hb.mono HB1.out.size))
   clear hb
   go_wp2_with fail
   refine (HW.out _ (HV.out.up HB2.out)).mono ?_
   rintro e w3 ⟨A3,c3,rfl,hnw,hl,hb⟩
   have HB3:=Lh (HB2.out.trans (hb.mono HB2.out.size))
   have HN:=Lh (nw_low hnw HB2.out.size)
   have HL:=Lh hl
   clear hb hnw hl
   go_wp2
   exact bodyPost_ret (v:=.tuple #[.slice A3 (cuF l k).length c3,.int .i64 0]) (by simp only [results,Tryz.results159];go_simp <;> rfl) rfl ⟨A3,c3,by rw [HR.out],HN.out,by rw [HR.out];exact HL.out,HB3.out⟩
 ·have hE:hrmE l id=vaF l:=by unfold hrmE;rw [if_pos h0]
  have HR:=Lh (show rmR l id=[] by unfold rmR;rw [if_neg (by rw [hE];exact h0)])
  have hne:(vaF l != 0)=true:=bne_iff_ne.2 h0
  rw [hE]
  generalize vaF l=x at*
  clear h0 hE
  go_enter Tryz.func159,Tryz.ntmps159
  go_wp2_with fail
  refine (HVA.out _ HV.out).mono ?_
  rintro e w1 ⟨rfl,hb⟩
  have HB1:=Lh hb
  clear hb
  go_wp2
  exact bodyPost_ret (v:=.tuple #[.slice none 0 0,.int .i64 x]) (by simp only [results,Tryz.results159];go_simp <;> rfl) rfl ⟨none,0,by rw [HR.out];rfl,nw_none,by rw [HR.out];exact Dl.nil,HB1.out⟩
set_option maxHeartbeats 4000000 in
set_option maxRecDepth 20000 in
theorem removed_any (A:Option Addr) (n c:Nat) (l:List Le) (A2:Option Addr) (n2 c2:Nat) (h:List Du) (id:Int) (w:World) (hv:El w w.heap.size (.slice A n c) l) (hd:Dl w w.heap.size (.slice A2 n2 c2) h) :
  Calls Tryz.prog 107 #[tv A n c A2 n2 c2,.int .i64 id] w (DlE w (rlH l h id) (rlE l h id)):=by
 obtain ⟨rfl,hm1,hm2⟩:=hv.len
 obtain ⟨rfl,hm3,hm4⟩:=hd.len
 have H0:=Lh (VaA.start 31 hv hd)
 have HV:=Lh (fun p W (k:VaA w p A c l A2 c2 h W)=>lvalid_any A l.length c l A2 h.length c2 h W k.el k.dl)
 have HR:=Lh (fun p W (k:VaA w p A c l A2 c2 h W)=>dremove_any A2 h.length c2 h id W k.dl)
 clear hv hd hm1 hm2 hm3 hm4
 by_cases h0:tbV l h=0
 ·have t:=(tbV_iff l h).1 h0
  rw [h0] at HV
  rw [rlE_tb t,rlH_tb t]
  clear h0 t
  generalize rmR h id=k at*
  generalize hrmE h id=x at*
  go_enter Tryz.func107,Tryz.ntmps107
  obtain ⟨t0,t1,tl⟩:=H0.out.tb
  go_wp2_with fail
  obtain ⟨p,hp⟩:∃ p,p=w.heap.size:=⟨_,rfl⟩
  rw [←hp] at H0 ⊢
  clear t0 t1 tl hp
  generalize w.alloc (.cells #[.slice A l.length c,.slice A2 h.length c2] 31)=w1 at*
  refine (HV.out _ _ H0.out).mono ?_
  rintro e w2 ⟨rfl,hb⟩
  have H1:=Lh (H0.out.below hb)
  obtain ⟨t0,t1,tl⟩:=H1.out.tb
  clear hb
  go_wp2_with fail
  clear t0 t1 tl
  refine (HR.out _ _ H1.out).mono ?_
  rintro e w3 ⟨A3,c3,rfl,hnw,hl,hb⟩
  have HF:=Lh (show DlE w k x (.returned (.tuple #[.slice A3 k.length c3,.int .i64 x])) w3 from ⟨A3,c3,rfl,nw_low hnw H1.out.bel.size,hl,H1.out.bel.trans (hb.mono H1.out.bel.size)⟩)
  clear hb hnw hl
  go_wp2
  exact bodyPost_ret (v:=.tuple #[.slice A3 k.length c3,.int .i64 x]) (by simp only [results,Tryz.results107];go_simp <;> rfl) rfl HF.out
 ·have hx:=rlE_bad (id:=id) h0
  have HN:=Lh (rlE_ne (l:=l) (h:=h) (id:=id) (by rw [hx];exact h0)).1
  have hne:(tbV l h != 0)=true:=bne_iff_ne.2 h0
  rw [hx]
  generalize tbV l h=x at*
  clear h0 hx
  go_enter Tryz.func107,Tryz.ntmps107
  obtain ⟨t0,t1,tl⟩:=H0.out.tb
  go_wp2_with fail
  obtain ⟨p,hp⟩:∃ p,p=w.heap.size:=⟨_,rfl⟩
  rw [←hp] at H0 ⊢
  clear t0 t1 tl hp
  generalize w.alloc (.cells #[.slice A l.length c,.slice A2 h.length c2] 31)=w1 at*
  refine (HV.out _ _ H0.out).mono ?_
  rintro e w2 ⟨rfl,hb⟩
  have H1:=Lh (H0.out.below hb).bel
  clear hb
  go_wp2
  exact bodyPost_ret (v:=.tuple #[.slice none 0 0,.int .i64 x]) (by simp only [results,Tryz.results107];go_simp <;> rfl) rfl ⟨none,0,by rw [HN.out];rfl,nw_none,by rw [HN.out];exact Dl.nil,H1.out⟩
def ElV (w:World) (l:List Le) (e:Ending) (w' : World):Prop:=∃ A c,e=.returned (.slice A l.length c)∧Nw w.heap.size A∧El w' w'.heap.size (.slice A l.length c) l∧Below w.heap.size w w'
theorem eow_elv {w w' : World} {l:List Le} {e:Ending} (h:EOw w l e w'):ElV w l e w':=by
 obtain ⟨v,rfl,ho,hb⟩:=h
 obtain ⟨A,c,rfl⟩:=own_form ho
 exact ⟨A,c,rfl,nwv_of (nwv_own ho (Nat.le_refl _)),El.of_own ho,hb⟩
abbrev RMs (W:World) (r:Nat) (M:Msg):Prop:=W.cell? ⟨r,0,none⟩=some (.int .i64 M.id)∧W.cell? ⟨r,1,none⟩=some (.int .i64 M.rt)∧W.cell? ⟨r,2,none⟩=some (.int .i64 M.ep)∧W.cell? ⟨r,3,none⟩=some (.int .i64 M.ct)∧W.cell? ⟨r,4,none⟩=some (.int .i64 M.gn)∧W.cell? ⟨r,5,none⟩=some (.int .i64 M.st)∧W.cell? ⟨r,6,none⟩=some (.string M.bd)∧W.frozen? ⟨r,0,none⟩=false∧W.frozen? ⟨r,1,none⟩=false∧W.frozen? ⟨r,2,none⟩=false∧W.frozen? ⟨r,3,none⟩=false∧W.frozen? ⟨r,4,none⟩=false∧W.frozen? ⟨r,5,none⟩=false∧W.frozen? ⟨r,6,none⟩=false∧r<W.heap.size
theorem RMs.lt {W:World} {r:Nat} {M:Msg} (h:RMs W r M):r<W.heap.size:=h.2.2.2.2.2.2.2.2.2.2.2.2.2.2
theorem RMs.below {B:Nat} {W W' : World} {r:Nat} {M:Msg} (h:RMs W r M) (hb:Below B W W') (hr:r<B):RMs W' r M:=
 ⟨(hb.cell (p:=⟨r,0,none⟩) hr).trans h.1,(hb.cell (p:=⟨r,1,none⟩) hr).trans h.2.1,(hb.cell (p:=⟨r,2,none⟩) hr).trans h.2.2.1,(hb.cell (p:=⟨r,3,none⟩) hr).trans h.2.2.2.1,(hb.cell (p:=⟨r,4,none⟩) hr).trans h.2.2.2.2.1,(hb.cell (p:=⟨r,5,none⟩) hr).trans h.2.2.2.2.2.1,(hb.cell (p:=⟨r,6,none⟩) hr).trans h.2.2.2.2.2.2.1,(hb.frozen (p:=⟨r,0,none⟩) hr).trans h.2.2.2.2.2.2.2.1,(hb.frozen (p:=⟨r,1,none⟩) hr).trans h.2.2.2.2.2.2.2.2.1,(hb.frozen (p:=⟨r,2,none⟩) hr).trans h.2.2.2.2.2.2.2.2.2.1,(hb.frozen (p:=⟨r,3,none⟩) hr).trans h.2.2.2.2.2.2.2.2.2.2.1,(hb.frozen (p:=⟨r,4,none⟩) hr).trans h.2.2.2.2.2.2.2.2.2.2.2.1,(hb.frozen (p:=⟨r,5,none⟩) hr).trans h.2.2.2.2.2.2.2.2.2.2.2.2.1,(hb.frozen (p:=⟨r,6,none⟩) hr).trans h.2.2.2.2.2.2.2.2.2.2.2.2.2.1,Nat.lt_of_lt_of_le h.2.2.2.2.2.2.2.2.2.2.2.2.2.2 hb.size⟩
theorem RMs.start (w:World) (M:Msg) (t:TypeId):RMs (w.alloc (.cells #[.int .i64 M.id,.int .i64 M.rt,.int .i64 M.ep,.int .i64 M.ct,.int .i64 M.gn,.int .i64 M.st,.string M.bd] t)) w.heap.size M:=
 ⟨by simp [go_sem],by simp [go_sem],by simp [go_sem],by simp [go_sem],by simp [go_sem],by simp [go_sem],by simp [go_sem],by simp [go_sem],by simp [go_sem],by simp [go_sem],by simp [go_sem],by simp [go_sem],by simp [go_sem],by simp [go_sem],by simp⟩
structure RlW (w:World) (p r s:Nat) (A:Option Addr) (c:Nat) (l:List Le) (A2:Option Addr) (c2:Nat) (h:List Du) (W:World):Prop where
 va:VaA w p A c l A2 c2 h W
 rt:RT W r none 0 0 none 0 0
 rm:RMs W s zM
 ne:w.heap.size≤p∧p<r∧r<s
section
variable {w W W' : World} {p r s c c2:Nat} {A A2:Option Addr} {l:List Le} {h:List Du}
theorem RlW.below (k:RlW w p r s A c l A2 c2 h W) (hb:Below W.heap.size W W'):RlW w p r s A c l A2 c2 h W':=⟨k.va.below hb,k.rt.below hb k.rt.lt,k.rm.below hb k.rm.lt,k.ne⟩
theorem RlW.start (hv:El w w.heap.size (.slice A l.length c) l) (hd:Dl w w.heap.size (.slice A2 h.length c2) h) (t u:TypeId):RlW w w.heap.size (w.heap.size+1) (w.heap.size+1+1) A c l A2 c2 h (((w.alloc (.cells #[.slice A l.length c,.slice A2 h.length c2] t)).alloc (.cells #[.slice none 0 0,.slice none 0 0] t)).alloc (.cells #[.int .i64 0,.int .i64 0,.int .i64 0,.int .i64 0,.int .i64 0,.int .i64 0,.string ⟨#[]⟩] u)):=by
 have e1:(w.alloc (.cells #[.slice A l.length c,.slice A2 h.length c2] t)).heap.size=w.heap.size+1:=by simp
 have e2:((w.alloc (.cells #[.slice A l.length c,.slice A2 h.length c2] t)).alloc (.cells #[.slice none 0 0,.slice none 0 0] t)).heap.size=w.heap.size+1+1:=by simp
 have k1:=RT.start (w.alloc (.cells #[.slice A l.length c,.slice A2 h.length c2] t)) none 0 0 none 0 0 t
 have k2:=RMs.start ((w.alloc (.cells #[.slice A l.length c,.slice A2 h.length c2] t)).alloc (.cells #[.slice none 0 0,.slice none 0 0] t)) zM u
 rw [e1] at k1
 rw [e2] at k2
 exact ⟨((VaA.start t hv hd).alloc _).alloc _,k1.below ((Below.refl _ _).alloc (Nat.le_refl _) _) k1.lt,k2,Nat.le_refl _,Nat.lt_succ_self _,Nat.lt_succ_self _⟩
end
set_option maxHeartbeats 8000000 in
set_option maxRecDepth 20000 in
theorem lrelease_any (A:Option Addr) (n c:Nat) (l:List Le) (A2:Option Addr) (n2 c2:Nat) (h:List Du) (id:Int) (w:World) (hv:El w w.heap.size (.slice A n c) l) (hd:Dl w w.heap.size (.slice A2 n2 c2) h) :
  Calls Tryz.prog 59 #[tv A n c A2 n2 c2,.int .i64 id] w (TME w (rlL l h id) (rlH l h id) (rlM l h id) (rlE l h id)):=by
 obtain ⟨rfl,hm1,hm2⟩:=hv.len
 obtain ⟨rfl,hm3,hm4⟩:=hd.len
 have H0:=Lh (RlW.start hv hd 31 56)
 have HV:=Lh hv
 have HRM:=Lh (fun p W (k:VaA w p A c l A2 c2 h W)=>removed_any A l.length c l A2 h.length c2 h id W k.el k.dl)
 clear hv hd hm1 hm2 hm3 hm4
 by_cases he:rlE l h id=0
 ·obtain ⟨t,k,hk,hka,_,hH,hL,hM⟩:=rlE_at he
  have HP:=Lh (fun p W (q:VaA w p A c l A2 c2 h W)=>lplace_any A l.length c l id W q.el t.asc (by have:=t.len;omega))
  unfold PlR at HP
  rw [hka] at HP
  rw [he] at HRM
  rw [he,hL,hM]
  generalize rlH l h id=K at*
  generalize kHas Le.id l id=O at*
  have HW:=Lh (fun p W (q:VaA w p A c l A2 c2 h W)=>ewithout_any A l.length c k l W q.el hk (by have:=t.len;omega))
  have hk' : (k:Int)<(l.length:Int):=by omega
  obtain ⟨X,hX⟩:∃ X,l[k]=X:=⟨_,rfl⟩
  rw [hX]
  have HXK:=Lh hX
  generalize l.eraseIdx k=LE at*
  clear he t hka hH hL hM hX
  go_enter Tryz.func59,Tryz.ntmps59
  obtain ⟨t0,t1,tl⟩:=H0.out.va.tb
  go_wp2_with fail
  clear t0 t1 tl
  obtain ⟨p,hp⟩:∃ p,p=w.heap.size:=⟨_,rfl⟩
  obtain ⟨r,hr⟩:∃ r,r=w.heap.size+1:=⟨_,rfl⟩
  obtain ⟨s,hs⟩:∃ s,s=w.heap.size+1+1:=⟨_,rfl⟩
  rw [←hs,←hr,←hp] at H0 ⊢
  clear hp hr hs
  generalize (((w.alloc (.cells #[.slice A l.length c,.slice A2 h.length c2] 31)).alloc (.cells #[.slice none 0 0,.slice none 0 0] 31)).alloc (.cells #[.int .i64 0,.int .i64 0,.int .i64 0,.int .i64 0,.int .i64 0,.int .i64 0,.string ⟨#[]⟩] 56))=w1 at*
  refine (HRM.out _ _ H0.out.va).mono ?_
  rintro e w2 ⟨A3,c3,rfl,hnw,hl,hb⟩
  have H1:=Lh (H0.out.below hb)
  have HK:=Lh hl
  have HNW:=Lh hnw
  have HSZ:=Lh (And.intro H0.out.rt.lt (And.intro H0.out.rm.lt H0.out.va.bel.size))
  clear hb hnw hl
  obtain ⟨t0,t1,tl⟩:=H1.out.va.tb
  go_wp2_with fail
  clear t0 t1 tl
  refine (HP.out _ _ H1.out.va).mono ?_
  rintro e w3 ⟨rfl,hb⟩
  have H2:=Lh (H1.out.below hb)
  have HK2:=Lh (HK.out.up hb)
  clear hb
  obtain ⟨b,o,rfl,hbw⟩:=HV.out.some_ (by omega)
  have HBR:=Lh (show p≠r∧b≠r∧p≠s∧b≠s∧r≠s by have:=H1.out.ne;omega)
  have HS0:=Lh (fun W (q:RlW w p r s (some ⟨b,o,none⟩) c l A2 c2 h W)=>show W.cell? ⟨p,0,none⟩=some (.slice (some ⟨b,o,none⟩) l.length c)∧W.cell? ⟨b,o+k*8,none⟩=some (.int .i64 X.m.id)∧W.cell? ⟨b,o+k*8+1,none⟩=some (.int .i64 X.m.rt)∧W.cell? ⟨b,o+k*8+2,none⟩=some (.int .i64 X.m.ep)∧W.cell? ⟨b,o+k*8+3,none⟩=some (.int .i64 X.m.ct)∧W.cell? ⟨b,o+k*8+4,none⟩=some (.int .i64 X.m.gn)∧W.cell? ⟨b,o+k*8+5,none⟩=some (.int .i64 X.m.st)∧W.cell? ⟨b,o+k*8+6,none⟩=some (.string X.m.bd) from by
   obtain ⟨⟨c0,c1,c2',c3,c4,c5,c6,c7⟩,_⟩:=q.va.el.c8 hk
   rw [HXK.out] at c0 c1 c2' c3 c4 c5 c6 c7
   exact ⟨q.va.tb.1,c0,c1,c2',c3,c4,c5,c6⟩)
  have HSa:=Lh (fun W v v2 (q:W.cell? ⟨p,0,none⟩=some (.slice (some ⟨b,o,none⟩) l.length c)∧W.cell? ⟨b,o+k*8,none⟩=some (.int .i64 X.m.id)∧W.cell? ⟨b,o+k*8+1,none⟩=some (.int .i64 X.m.rt)∧W.cell? ⟨b,o+k*8+2,none⟩=some (.int .i64 X.m.ep)∧W.cell? ⟨b,o+k*8+3,none⟩=some (.int .i64 X.m.ct)∧W.cell? ⟨b,o+k*8+4,none⟩=some (.int .i64 X.m.gn)∧W.cell? ⟨b,o+k*8+5,none⟩=some (.int .i64 X.m.st)∧W.cell? ⟨b,o+k*8+6,none⟩=some (.string X.m.bd))=>show (set2 W r v v2).cell? ⟨p,0,none⟩=some (.slice (some ⟨b,o,none⟩) l.length c)∧(set2 W r v v2).cell? ⟨b,o+k*8,none⟩=some (.int .i64 X.m.id)∧(set2 W r v v2).cell? ⟨b,o+k*8+1,none⟩=some (.int .i64 X.m.rt)∧(set2 W r v v2).cell? ⟨b,o+k*8+2,none⟩=some (.int .i64 X.m.ep)∧(set2 W r v v2).cell? ⟨b,o+k*8+3,none⟩=some (.int .i64 X.m.ct)∧(set2 W r v v2).cell? ⟨b,o+k*8+4,none⟩=some (.int .i64 X.m.gn)∧(set2 W r v v2).cell? ⟨b,o+k*8+5,none⟩=some (.int .i64 X.m.st)∧(set2 W r v v2).cell? ⟨b,o+k*8+6,none⟩=some (.string X.m.bd) from ⟨(set2_far HBR.out.1).trans q.1,(set2_far HBR.out.2.1).trans q.2.1,(set2_far HBR.out.2.1).trans q.2.2.1,(set2_far HBR.out.2.1).trans q.2.2.2.1,(set2_far HBR.out.2.1).trans q.2.2.2.2.1,(set2_far HBR.out.2.1).trans q.2.2.2.2.2.1,(set2_far HBR.out.2.1).trans q.2.2.2.2.2.2.1,(set2_far HBR.out.2.1).trans q.2.2.2.2.2.2.2⟩)
  have HSb:=Lh (fun W (q:W.cell? ⟨p,0,none⟩=some (.slice (some ⟨b,o,none⟩) l.length c)∧W.cell? ⟨b,o+k*8,none⟩=some (.int .i64 X.m.id)∧W.cell? ⟨b,o+k*8+1,none⟩=some (.int .i64 X.m.rt)∧W.cell? ⟨b,o+k*8+2,none⟩=some (.int .i64 X.m.ep)∧W.cell? ⟨b,o+k*8+3,none⟩=some (.int .i64 X.m.ct)∧W.cell? ⟨b,o+k*8+4,none⟩=some (.int .i64 X.m.gn)∧W.cell? ⟨b,o+k*8+5,none⟩=some (.int .i64 X.m.st)∧W.cell? ⟨b,o+k*8+6,none⟩=some (.string X.m.bd))=>show (set7 W s 0 X.m).cell? ⟨p,0,none⟩=some (.slice (some ⟨b,o,none⟩) l.length c)∧(set7 W s 0 X.m).cell? ⟨b,o+k*8,none⟩=some (.int .i64 X.m.id)∧(set7 W s 0 X.m).cell? ⟨b,o+k*8+1,none⟩=some (.int .i64 X.m.rt)∧(set7 W s 0 X.m).cell? ⟨b,o+k*8+2,none⟩=some (.int .i64 X.m.ep)∧(set7 W s 0 X.m).cell? ⟨b,o+k*8+3,none⟩=some (.int .i64 X.m.ct)∧(set7 W s 0 X.m).cell? ⟨b,o+k*8+4,none⟩=some (.int .i64 X.m.gn)∧(set7 W s 0 X.m).cell? ⟨b,o+k*8+5,none⟩=some (.int .i64 X.m.st)∧(set7 W s 0 X.m).cell? ⟨b,o+k*8+6,none⟩=some (.string X.m.bd) from ⟨(sets_far (p:=⟨p,0,none⟩) HBR.out.2.2.1 0 X.m.l).trans q.1,(sets_far (p:=⟨b,o+k*8,none⟩) HBR.out.2.2.2.1 0 X.m.l).trans q.2.1,(sets_far (p:=⟨b,o+k*8+1,none⟩) HBR.out.2.2.2.1 0 X.m.l).trans q.2.2.1,(sets_far (p:=⟨b,o+k*8+2,none⟩) HBR.out.2.2.2.1 0 X.m.l).trans q.2.2.2.1,(sets_far (p:=⟨b,o+k*8+3,none⟩) HBR.out.2.2.2.1 0 X.m.l).trans q.2.2.2.2.1,(sets_far (p:=⟨b,o+k*8+4,none⟩) HBR.out.2.2.2.1 0 X.m.l).trans q.2.2.2.2.2.1,(sets_far (p:=⟨b,o+k*8+5,none⟩) HBR.out.2.2.2.1 0 X.m.l).trans q.2.2.2.2.2.2.1,(sets_far (p:=⟨b,o+k*8+6,none⟩) HBR.out.2.2.2.1 0 X.m.l).trans q.2.2.2.2.2.2.2⟩)
  have HVW:=Lh (show VaA w p (some ⟨b,o,none⟩) c l A2 c2 h w3.drew from H2.out.va.below ((Below.refl _ _).drew))
  have HT0:=Lh (show w3.drew.cell? ⟨p,0,none⟩=some (.slice (some ⟨b,o,none⟩) l.length c)∧w3.drew.cell? ⟨b,o+k*8,none⟩=some (.int .i64 X.m.id)∧w3.drew.cell? ⟨b,o+k*8+1,none⟩=some (.int .i64 X.m.rt)∧w3.drew.cell? ⟨b,o+k*8+2,none⟩=some (.int .i64 X.m.ep)∧w3.drew.cell? ⟨b,o+k*8+3,none⟩=some (.int .i64 X.m.ct)∧w3.drew.cell? ⟨b,o+k*8+4,none⟩=some (.int .i64 X.m.gn)∧w3.drew.cell? ⟨b,o+k*8+5,none⟩=some (.int .i64 X.m.st)∧w3.drew.cell? ⟨b,o+k*8+6,none⟩=some (.string X.m.bd) from HS0.out w3.drew (H2.out.below ((Below.refl _ _).drew)))
  have HAF:=Lh (fun (w4:World) (hb:Below w3.drew.heap.size w3.drew w4)=>show RlW w p r s (some ⟨b,o,none⟩) c l A2 c2 h w4∧Dl w4 w4.heap.size (.slice A3 K.length c3) K from ⟨H2.out.below (drew_bel hb),HK2.out.up (drew_bel hb)⟩)
  have hrs:¬r=s:=HBR.out.2.2.2.2
  have hsr:¬s=r:=fun e=>HBR.out.2.2.2.2 e.symm
  go_wp2_with fail
  go_region_held3 (fun W=>W.cell? ⟨p,0,none⟩=some (.slice (some ⟨b,o,none⟩) l.length c)∧W.cell? ⟨b,o+k*8,none⟩=some (.int .i64 X.m.id)∧W.cell? ⟨b,o+k*8+1,none⟩=some (.int .i64 X.m.rt)∧W.cell? ⟨b,o+k*8+2,none⟩=some (.int .i64 X.m.ep)∧W.cell? ⟨b,o+k*8+3,none⟩=some (.int .i64 X.m.ct)∧W.cell? ⟨b,o+k*8+4,none⟩=some (.int .i64 X.m.gn)∧W.cell? ⟨b,o+k*8+5,none⟩=some (.int .i64 X.m.st)∧W.cell? ⟨b,o+k*8+6,none⟩=some (.string X.m.bd))
   (first | with_reducible exact HT0.out | with_reducible exact HT1.out | with_reducible exact HT2.out | with_reducible exact HT3.out)
   (first | (go_at_call 111;(with_reducible refine (HW.out _ _ HVW.out).mono ?_);rintro e w4 hq;obtain ⟨A4,c4,rfl,hnw4,hl4,hb4⟩:=eow_elv hq;obtain ⟨h4,hk4⟩:=HAF.out _ hb4;have H4:=Lh h4;have HT1:=Lh (HS0.out _ h4);have HT2:=Lh (HSa.out _ (.slice A4 LE.length c4) (.slice A3 K.length c3) HT1.out);have HT3:=Lh (HSb.out _ HT2.out);have HE4:=Lh hl4;have HK4:=Lh hk4;have HN4:=Lh hnw4;obtain ⟨r0,r1,f0,f1,rl⟩:=h4.rt;obtain ⟨s0,s1,s2,s3,s4,s5,s6,g0,g1,g2,g3,g4,g5,g6,sl⟩:=h4.rm;clear hq hb4 hl4 hk4 hnw4 h4))
  have HF:=Lh (show TME w LE K X.m 0 (.returned (.tuple #[.agg #[.slice A4 LE.length c4,.slice A3 K.length c3],X.m.v,.int .i64 0])) (set7 (set2 w4 r (.slice A4 LE.length c4) (.slice A3 K.length c3)) s 0 X.m) from
   ⟨A4,c4,A3,c3,rfl,nw_low HN4.out H2.out.va.bel.size,nw_low HNW.out HSZ.out.2.2,(El.offs HN4.out (show s<w3.drew.heap.size from H2.out.rm.lt) X.m.l 0 (HE4.out.set2 HN4.out (show r<w3.drew.heap.size from H2.out.rt.lt))).more (by simp),(Dl.offs HNW.out HSZ.out.2.1 X.m.l 0 (HK4.out.set2 HNW.out HSZ.out.1)).more (by simp),sets_below (by have:=H1.out.ne;omega) X.m.l 0 _ (set2_below H4.out.va.bel (by have:=H1.out.ne;omega))⟩)
  go_wp2
  exact bodyPost_ret (v:=.tuple #[.agg #[.slice A4 LE.length c4,.slice A3 K.length c3],X.m.v,.int .i64 0]) (by simp only [results,Tryz.results59];go_simp <;> rfl) rfl HF.out
 ·obtain ⟨hH,hL,hM⟩:=rlE_ne he
  have HN:=Lh (And.intro hL (And.intro hH hM))
  have hne:(rlE l h id != 0)=true:=bne_iff_ne.2 he
  rw [hH] at HRM
  clear he hH hL hM
  rw [HN.out.1,HN.out.2.1,HN.out.2.2]
  generalize rlE l h id=x at*
  go_enter Tryz.func59,Tryz.ntmps59
  obtain ⟨t0,t1,tl⟩:=H0.out.va.tb
  go_wp2_with fail
  clear t0 t1 tl
  obtain ⟨p,hp⟩:∃ p,p=w.heap.size:=⟨_,rfl⟩
  obtain ⟨r,hr⟩:∃ r,r=w.heap.size+1:=⟨_,rfl⟩
  obtain ⟨s,hs⟩:∃ s,s=w.heap.size+1+1:=⟨_,rfl⟩
  rw [←hs,←hr,←hp] at H0 ⊢
  clear hp hr hs
  generalize (((w.alloc (.cells #[.slice A l.length c,.slice A2 h.length c2] 31)).alloc (.cells #[.slice none 0 0,.slice none 0 0] 31)).alloc (.cells #[.int .i64 0,.int .i64 0,.int .i64 0,.int .i64 0,.int .i64 0,.int .i64 0,.string ⟨#[]⟩] 56))=w1 at*
  refine (HRM.out _ _ H0.out.va).mono ?_
  rintro e w2 ⟨A3,c3,rfl,hnw,hl,hb⟩
  have H1:=Lh (H0.out.below hb)
  clear hb hnw hl
  obtain ⟨r0,r1,f0,f1,rl⟩:=H1.out.rt
  obtain ⟨s0,s1,s2,s3,s4,s5,s6,g0,g1,g2,g3,g4,g5,g6,sl⟩:=H1.out.rm
  have hrs:¬r=s:=by have:=H1.out.ne;omega
  have hsr:¬s=r:=by have:=H1.out.ne;omega
  have HB:=Lh (show Below w.heap.size w (set7 (set2 w2 r (.slice none 0 0) (.slice none 0 0)) s 0 zM) from sets_below (by have:=H1.out.ne;omega) zM.l 0 _ (set2_below H1.out.va.bel (by have:=H1.out.ne;omega)))
  go_wp2
  exact bodyPost_ret (v:=.tuple #[.agg #[.slice none 0 0,.slice none 0 0],.agg #[.int .i64 0,.int .i64 0,.int .i64 0,.int .i64 0,.int .i64 0,.int .i64 0,.string ⟨#[]⟩],.int .i64 x]) (by simp only [results,Tryz.results59];go_simp <;> rfl) rfl (tme_nil rfl rfl rfl rfl HB.out)
end Go.Proofs.YtncgbldcjfbknaaGreat
/- Plain: lists as results in new memory. -/
namespace Go.Proofs.YtncgbldcjfbknaaGreat
open Go.RowKit
set_option linter.unusedVariables false
def LsV (w:World) (l:List Msg) (e:Ending) (w' : World):Prop:=∃ A c,e=.returned (.slice A l.length c)∧Nw w.heap.size A∧Ls w' w'.heap.size (.slice A l.length c) l∧Below w.heap.size w w'
theorem eclp_elv {w w' : World} {l:List Le} {e:Ending} (h:EClP w l e w'):ElV w l e w':=by
 obtain ⟨v,rfl,ho,hb⟩:=h
 obtain ⟨A,c,rfl⟩:=own_form ho
 exact ⟨A,c,rfl,nwv_of (nwv_own ho (Nat.le_refl _)),El.of_own ho,hb⟩
theorem dclp_dlv {w w' : World} {l:List Du} {e:Ending} (h:DClP w l e w'):DlV w l e w':=by
 obtain ⟨v,rfl,ho,hb⟩:=h
 obtain ⟨A,c,rfl⟩:=own_form ho
 exact ⟨A,c,rfl,nwv_of (nwv_own ho (Nat.le_refl _)),Dl.of_own ho,hb⟩
end Go.Proofs.YtncgbldcjfbknaaGreat
namespace Go.Proofs.YtncgbldcjfbknaaGreat
open Go.RowKit
set_option linter.unusedVariables false
theorem mgclp_lsv7 {w w' : World} {l:List Msg} {e:Ending} (h:MGClP w l e w'):LsV w l e w':=by
 obtain ⟨v,rfl,ho,hb⟩:=h
 obtain ⟨A,c,rfl⟩:=own_form ho
 exact ⟨A,c,rfl,nwv_of (nwv_own ho (Nat.le_refl _)),Ls.of_own ho,hb⟩
structure Cs7c (w:World) (p r:Nat) (S:Sh) (D:Sx) (W:World):Prop where
 sa:SAt w p S D W
 rb:SB8 W r zS zX
 ne:p<r∧w.heap.size≤r
section
variable {w W W' : World} {p r:Nat} {S:Sh} {D:Sx}
theorem Cs7c.below (h:Cs7c w p r S D W) (hb:Below W.heap.size W W'):Cs7c w p r S D W':=⟨h.sa.below hb,h.rb.up hb,h.ne⟩
theorem Cs7c.start (hs:SR w w.heap.size S D):Cs7c w w.heap.size (w.heap.size+1) S D ((w.alloc (.cells #[.bool S.lv,.int .i64 S.lo,.int .i64 S.hi,.slice D.A S.cs.length D.c,.int .i64 S.hd,.int .i64 S.sz,.slice D.A2 S.l.length D.c2,.slice D.A3 S.h.length D.c3] 33)).alloc (.cells #[.bool false,.int .i64 0,.int .i64 0,.slice none 0 0,.int .i64 0,.int .i64 0,.slice none 0 0,.slice none 0 0] 33)):=by
 have h1:=SB8.zero (w.alloc (.cells #[.bool S.lv,.int .i64 S.lo,.int .i64 S.hi,.slice D.A S.cs.length D.c,.int .i64 S.hd,.int .i64 S.sz,.slice D.A2 S.l.length D.c2,.slice D.A3 S.h.length D.c3] 33)) 33
 rw [show (w.alloc (.cells #[.bool S.lv,.int .i64 S.lo,.int .i64 S.hi,.slice D.A S.cs.length D.c,.int .i64 S.hd,.int .i64 S.sz,.slice D.A2 S.l.length D.c2,.slice D.A3 S.h.length D.c3] 33)).heap.size=w.heap.size+1 by simp] at h1
 exact ⟨(SAt.start _ hs).below ((Below.refl _ _).alloc (Nat.le_refl _) _),h1,by omega,by omega⟩
end
theorem sv_out7 {w W:World} {r:Nat} {S:Sh} {D:Sx} (hr:w.heap.size≤r) (hb:Below w.heap.size w W) (hn:D.nw (r+1)) (hs:SR W W.heap.size S D):SV w S (.returned (sv S D)) (set8s W r S D):=
 ⟨D,rfl,hn.low (by omega),SR.sets (hn.off (Nat.lt_succ_self r)) (S.l8 D) 0 W hs,set8s_below hr hb S D⟩
set_option maxHeartbeats 8000000 in
set_option maxRecDepth 20000 in
theorem sclone7c_any (S:Sh) (D:Sx) (w:World) (hs:SR w w.heap.size S D) (n2:S.cs.length≤1000) (n3:S.l.length≤1000) (n4:S.h.length≤1000) :
  Calls Tryz.prog 56 #[sv S D] w (SV w S):=by
 have H0:=Lh (Cs7c.start hs)
 have HA:=Lh (fun D W (k:Cs7c w w.heap.size (w.heap.size+1) S D W)=>(mgclone_any D.A S.cs.length D.c S.cs W k.sa.sr.ls n2).mono fun _ _ h=>mgclp_lsv7 h)
 have HL:=Lh (fun D W (k:Cs7c w w.heap.size (w.heap.size+1) S D W)=>(eclone_any D.A2 S.l.length D.c2 S.l W k.sa.sr.el n3).mono fun _ _ h=>eclp_elv h)
 have HH:=Lh (fun D W (k:Cs7c w w.heap.size (w.heap.size+1) S D W)=>(dclone_any D.A3 S.h.length D.c3 S.h W k.sa.sr.dl n4).mono fun _ _ h=>dclp_dlv h)
 obtain ⟨p,hp⟩:∃ p,p=w.heap.size:=⟨_,rfl⟩
 obtain ⟨r,hr⟩:∃ r,r=w.heap.size+1:=⟨_,rfl⟩
 have HPP:=Lh (And.intro hp hr)
 rw [←hr] at H0 HA HL HH
 have H0:=Lh (show Cs7c w p r S D _ from by rw [hp];exact H0.out)
 have HA:=Lh (show ∀ (D:Sx) (W:World) (k:Cs7c w p r S D W),Calls Tryz.prog 104 #[.slice D.A S.cs.length D.c] W (LsV W S.cs) from by rw [hp];exact HA.out)
 have HL:=Lh (show ∀ (D:Sx) (W:World) (k:Cs7c w p r S D W),Calls Tryz.prog 102 #[.slice D.A2 S.l.length D.c2] W (ElV W S.l) from by rw [hp];exact HL.out)
 have HH:=Lh (show ∀ (D:Sx) (W:World) (k:Cs7c w p r S D W),Calls Tryz.prog 106 #[.slice D.A3 S.h.length D.c3] W (DlV W S.h) from by rw [hp];exact HH.out)
 clear hs n2 n3 n4 hp hr
 go_enter Tryz.func56,Tryz.ntmps56
 go_upto_region 1 with (fail)
 rw [←HPP.out.2,←HPP.out.1]
 generalize (w.alloc (.cells #[.bool S.lv,.int .i64 S.lo,.int .i64 S.hi,.slice D.A S.cs.length D.c,.int .i64 S.hd,.int .i64 S.sz,.slice D.A2 S.l.length D.c2,.slice D.A3 S.h.length D.c3] 33)).alloc (.cells #[.bool false,.int .i64 0,.int .i64 0,.slice none 0 0,.int .i64 0,.int .i64 0,.slice none 0 0,.slice none 0 0] 33)=w1 at*
 obtain ⟨t0,t1,t2,t3,t4,t5,t6,t7,tl⟩:=H0.out.sa.s8.facts
 go_wp2_with fail
 clear t0 t1 t2 t3 t4 t5 t6 t7 tl
 refine (HA.out _ _ H0.out).mono ?_
 rintro e w2 ⟨A1,c1,rfl,n1,l1,b1⟩
 have H1:=Lh (H0.out.below b1)
 have H2:=Lh (show Cs7c w p r S ⟨A1,c1,D.A2,D.c2,D.A3,D.c3⟩ (w2.setCell ⟨p,3,none⟩ (.slice A1 S.cs.length c1)) from ⟨H1.out.sa.setA l1 (offb_nw n1 H0.out.sa.s8.lt),H1.out.rb.other (q:=⟨p,3,none⟩) (Nat.ne_of_lt H1.out.ne.1) _,H1.out.ne⟩)
 have N1:=Lh (nw_low n1 (show r+1≤_ from H0.out.rb.lt))
 obtain ⟨t0,t1,t2,t3,t4,t5,t6,t7,tl⟩:=H1.out.sa.s8.facts
 obtain ⟨f0,f1,f2,f3,f4,f5,f6,f7⟩:=H1.out.sa.s8.free
 clear n1 l1 b1 H0
 go_upto_region 2 with (fail)
 clear t0 t1 t2 t3 t4 t5 t6 t7 tl f0 f1 f2 f3 f4 f5 f6 f7 H1
 generalize w2.setCell ⟨p,3,none⟩ (.slice A1 S.cs.length c1)=w3 at*
 have HM:=Lh (H2.out.below (Below.refl _ _).drew)
 obtain ⟨t0,t1,t2,t3,t4,t5,t6,t7,tl⟩:=H2.out.sa.s8.facts
 go_wp2_with fail
 go_region_law (first
  | (go_simp;go_at_call 102;(with_reducible refine (HL.out _ _ HM.out).mono ?_);rintro e w4 ⟨A2,c2,rfl,n1,l1,b1⟩;have HEL:=Lh (And.intro (nw_low n1 (show r+1≤_ from HM.out.rb.lt)) l1);have HBL:=Lh (Below.refl w4.heap.size w4);(try (have HBH:=Lh (HBH.out.trans (b1.mono HBH.out.size))));have HM:=Lh (HM.out.below b1);obtain ⟨t0,t1,t2,t3,t4,t5,t6,t7,tl⟩:=HM.out.sa.s8.facts;obtain ⟨f0,f1,f2,f3,f4,f5,f6,f7⟩:=HM.out.sa.s8.free;clear n1 l1 b1)
  | (go_simp;go_at_call 106;(with_reducible refine (HH.out _ _ HM.out).mono ?_);rintro e w5 ⟨A3,c3,rfl,n1,l1,b1⟩;have HEH:=Lh (And.intro (nw_low n1 (show r+1≤_ from HM.out.rb.lt)) l1);have HBH:=Lh (Below.refl w5.heap.size w5);(try (have HBL:=Lh (HBL.out.trans (b1.mono HBL.out.size))));have HM:=Lh (HM.out.below b1);obtain ⟨t0,t1,t2,t3,t4,t5,t6,t7,tl⟩:=HM.out.sa.s8.facts;obtain ⟨f0,f1,f2,f3,f4,f5,f6,f7⟩:=HM.out.sa.s8.free;clear n1 l1 b1))
 all_goals
  have HN:=Lh (show Sx.nw ⟨A1,c1,A2,c2,A3,c3⟩ (r+1) from ⟨N1.out,HEL.out.1,HEH.out.1⟩)
  have hpr:=HM.out.ne.1
  have hpr1:p<r+1:=by omega
  have HS6:=Lh (HM.out.sa.setL (HEL.out.2.up HBL.out) (offb_nw HEL.out.1 hpr1))
  have HS7:=Lh (HS6.out.setH (((HEH.out.2.up HBH.out).offp (p:=⟨p,6,none⟩) (offb_nw HEH.out.1 hpr1) (.slice A2 S.l.length c2)).more (by simp)) (offb_nw HEH.out.1 hpr1))
  have HR7:=Lh ((HM.out.rb.other (q:=⟨p,6,none⟩) (Nat.ne_of_lt hpr) (.slice A2 S.l.length c2)).other (q:=⟨p,7,none⟩) (Nat.ne_of_lt hpr) (.slice A3 S.h.length c3))
  have HF:=Lh (sv_out7 HM.out.ne.2 HS7.out.bel HN.out HS7.out.sr)
  obtain ⟨r0,r1,r2,r3,r4,r5,r6,r7,rl⟩:=HM.out.rb.facts
  obtain ⟨g0,g1,g2,g3,g4,g5,g6,g7⟩:=HM.out.rb.free
  have hp1:¬p=r:=by omega
  have hp2:¬r=p:=by omega
  clear HS6 HS7 HR7 HEL HEH HBL HBH HM HN N1 HL HH HA H2 hpr hpr1
  go_wp2
  exact bodyPost_ret (v:=sv S ⟨A1,c1,A2,c2,A3,c3⟩) (by simp only [results,Tryz.results56];go_simp <;> rfl) rfl HF.out
theorem sclone_any (S:Sh) (D:Sx) (w:World) (hs:SR w w.heap.size S D) (n1:1≤S.cs.length) (n2:S.cs.length≤1000) (n3:S.l.length≤1000) (n4:S.h.length≤1000):Calls Tryz.prog 56 #[sv S D] w (SV w S):=sclone7c_any S D w hs n2 n3 n4
end Go.Proofs.YtncgbldcjfbknaaGreat
