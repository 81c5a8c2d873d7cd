/- What is proved here: lease.removed, lease.Release by contracts; Shc; clone.Shard by a contract, for the texts of shard; shard.New by a contract; shard.Put by a contract. -/
import Derived.Test.YtncgbldcjfbknaaGreatJ20
namespace Go.Proofs.YtncgbldcjfbknaaGreat
open Go.RowKit
set_option linter.unusedVariables false
set_option maxHeartbeats 4000000 in
set_option maxRecDepth 20000 in
theorem removed_any (A:Option Addr) (n c:Nat) (l:List Le) (A2:Option Addr) (n2 c2:Nat) (h:List Du) (id:Int) (w:World) (hv:El w w.heap.size (.slice A n c) l) (hd:Dl w w.heap.size (.slice A2 n2 c2) h) :
  Calls Tryz.prog 107 #[tv A n c A2 n2 c2,.int .i64 id] w (DlE w (rlH l h id) (rlE l h id)):=by
 obtain ⟨rfl,hm1,hm2⟩:=hv.len
 obtain ⟨rfl,hm3,hm4⟩:=hd.len
 have H0:=Lh (VaA.start 31 hv hd)
 have HV:=Lh (fun p W (k:VaA w p A c l A2 c2 h W)=>lvalid_any A l.length c l A2 h.length c2 h W k.el k.dl)
 have HR:=Lh (fun p W (k:VaA w p A c l A2 c2 h W)=>dremove_any A2 h.length c2 h id W k.dl)
 clear hv hd hm1 hm2 hm3 hm4
 by_cases h0:tbV l h=0
 ·have t:=(tbV_iff l h).1 h0
  rw [h0] at HV
  rw [rlE_tb t,rlH_tb t]
  clear h0 t
  generalize rmR h id=k at*
  generalize hrmE h id=x at*
  go_enter Tryz.func107,Tryz.ntmps107
  obtain ⟨t0,t1,tl⟩:=H0.out.tb
  go_wp2_with fail
  obtain ⟨p,hp⟩:∃ p,p=w.heap.size:=⟨_,rfl⟩
  rw [←hp] at H0 ⊢
  clear t0 t1 tl hp
  generalize w.alloc (.cells #[.slice A l.length c,.slice A2 h.length c2] 31)=w1 at*
  refine (HV.out _ _ H0.out).mono ?_
  rintro e w2 ⟨rfl,hb⟩
  have H1:=Lh (H0.out.below hb)
  obtain ⟨t0,t1,tl⟩:=H1.out.tb
  clear hb
  go_wp2_with fail
  clear t0 t1 tl
  refine (HR.out _ _ H1.out).mono ?_
  rintro e w3 ⟨A3,c3,rfl,hnw,hl,hb⟩
  have HF:=Lh (show DlE w k x (.returned (.tuple #[.slice A3 k.length c3,.int .i64 x])) w3 from ⟨A3,c3,rfl,nw_low hnw H1.out.bel.size,hl,H1.out.bel.trans (hb.mono H1.out.bel.size)⟩)
  clear hb hnw hl
  go_wp2
  exact bodyPost_ret (v:=.tuple #[.slice A3 k.length c3,.int .i64 x]) (by simp only [results,Tryz.results107];go_simp <;> rfl) rfl HF.out
 ·have hx:=rlE_bad (id:=id) h0
  have HN:=Lh (rlE_ne (l:=l) (h:=h) (id:=id) (by rw [hx];exact h0)).1
  have hne:(tbV l h != 0)=true:=bne_iff_ne.2 h0
  rw [hx]
  generalize tbV l h=x at*
  clear h0 hx
  go_enter Tryz.func107,Tryz.ntmps107
  obtain ⟨t0,t1,tl⟩:=H0.out.tb
  go_wp2_with fail
  obtain ⟨p,hp⟩:∃ p,p=w.heap.size:=⟨_,rfl⟩
  rw [←hp] at H0 ⊢
  clear t0 t1 tl hp
  generalize w.alloc (.cells #[.slice A l.length c,.slice A2 h.length c2] 31)=w1 at*
  refine (HV.out _ _ H0.out).mono ?_
  rintro e w2 ⟨rfl,hb⟩
  have H1:=Lh (H0.out.below hb).bel
  clear hb
  go_wp2
  exact bodyPost_ret (v:=.tuple #[.slice none 0 0,.int .i64 x]) (by simp only [results,Tryz.results107];go_simp <;> rfl) rfl ⟨none,0,by rw [HN.out];rfl,nw_none,by rw [HN.out];exact Dl.nil,H1.out⟩
/-- A list of leases as a result: it is new. -/
def ElV (w:World) (l:List Le) (e:Ending) (w' : World):Prop:=∃ A c,e=.returned (.slice A l.length c)∧Nw w.heap.size A∧El w' w'.heap.size (.slice A l.length c) l∧Below w.heap.size w w'
theorem eow_elv {w w' : World} {l:List Le} {e:Ending} (h:EOw w l e w'):ElV w l e w':=by
 obtain ⟨v,rfl,ho,hb⟩:=h
 obtain ⟨A,c,rfl⟩:=own_form ho
 exact ⟨A,c,rfl,nwv_of (nwv_own ho (Nat.le_refl _)),El.of_own ho,hb⟩
/-- A box of a message that may be written. -/
abbrev RMs (W:World) (r:Nat) (M:Msg):Prop:=W.cell? ⟨r,0,none⟩=some (.int .i64 M.id)∧W.cell? ⟨r,1,none⟩=some (.int .i64 M.rt)∧W.cell? ⟨r,2,none⟩=some (.int .i64 M.ep)∧W.cell? ⟨r,3,none⟩=some (.int .i64 M.ct)∧W.cell? ⟨r,4,none⟩=some (.int .i64 M.gn)∧W.cell? ⟨r,5,none⟩=some (.int .i64 M.st)∧W.cell? ⟨r,6,none⟩=some (.string M.bd)∧W.frozen? ⟨r,0,none⟩=false∧W.frozen? ⟨r,1,none⟩=false∧W.frozen? ⟨r,2,none⟩=false∧W.frozen? ⟨r,3,none⟩=false∧W.frozen? ⟨r,4,none⟩=false∧W.frozen? ⟨r,5,none⟩=false∧W.frozen? ⟨r,6,none⟩=false∧r<W.heap.size
theorem RMs.lt {W:World} {r:Nat} {M:Msg} (h:RMs W r M):r<W.heap.size:=h.2.2.2.2.2.2.2.2.2.2.2.2.2.2
theorem RMs.below {B:Nat} {W W' : World} {r:Nat} {M:Msg} (h:RMs W r M) (hb:Below B W W') (hr:r<B):RMs W' r M:=
 ⟨(hb.cell (p:=⟨r,0,none⟩) hr).trans h.1,(hb.cell (p:=⟨r,1,none⟩) hr).trans h.2.1,(hb.cell (p:=⟨r,2,none⟩) hr).trans h.2.2.1,(hb.cell (p:=⟨r,3,none⟩) hr).trans h.2.2.2.1,(hb.cell (p:=⟨r,4,none⟩) hr).trans h.2.2.2.2.1,(hb.cell (p:=⟨r,5,none⟩) hr).trans h.2.2.2.2.2.1,(hb.cell (p:=⟨r,6,none⟩) hr).trans h.2.2.2.2.2.2.1,(hb.frozen (p:=⟨r,0,none⟩) hr).trans h.2.2.2.2.2.2.2.1,(hb.frozen (p:=⟨r,1,none⟩) hr).trans h.2.2.2.2.2.2.2.2.1,(hb.frozen (p:=⟨r,2,none⟩) hr).trans h.2.2.2.2.2.2.2.2.2.1,(hb.frozen (p:=⟨r,3,none⟩) hr).trans h.2.2.2.2.2.2.2.2.2.2.1,(hb.frozen (p:=⟨r,4,none⟩) hr).trans h.2.2.2.2.2.2.2.2.2.2.2.1,(hb.frozen (p:=⟨r,5,none⟩) hr).trans h.2.2.2.2.2.2.2.2.2.2.2.2.1,(hb.frozen (p:=⟨r,6,none⟩) hr).trans h.2.2.2.2.2.2.2.2.2.2.2.2.2.1,Nat.lt_of_lt_of_le h.2.2.2.2.2.2.2.2.2.2.2.2.2.2 hb.size⟩
theorem RMs.start (w:World) (M:Msg) (t:TypeId):RMs (w.alloc (.cells #[.int .i64 M.id,.int .i64 M.rt,.int .i64 M.ep,.int .i64 M.ct,.int .i64 M.gn,.int .i64 M.st,.string M.bd] t)) w.heap.size M:=
 ⟨by simp [go_sem],by simp [go_sem],by simp [go_sem],by simp [go_sem],by simp [go_sem],by simp [go_sem],by simp [go_sem],by simp [go_sem],by simp [go_sem],by simp [go_sem],by simp [go_sem],by simp [go_sem],by simp [go_sem],by simp [go_sem],by simp⟩
/-- The work of Release: the table, the result table, the result message. -/
structure RlW (w:World) (p r s:Nat) (A:Option Addr) (c:Nat) (l:List Le) (A2:Option Addr) (c2:Nat) (h:List Du) (W:World):Prop where
 va:VaA w p A c l A2 c2 h W
 rt:RT W r none 0 0 none 0 0
 rm:RMs W s zM
 ne:w.heap.size≤p∧p<r∧r<s
section
variable {w W W' : World} {p r s c c2:Nat} {A A2:Option Addr} {l:List Le} {h:List Du}
theorem RlW.below (k:RlW w p r s A c l A2 c2 h W) (hb:Below W.heap.size W W'):RlW w p r s A c l A2 c2 h W':=⟨k.va.below hb,k.rt.below hb k.rt.lt,k.rm.below hb k.rm.lt,k.ne⟩
theorem RlW.start (hv:El w w.heap.size (.slice A l.length c) l) (hd:Dl w w.heap.size (.slice A2 h.length c2) h) (t u:TypeId):RlW w w.heap.size (w.heap.size+1) (w.heap.size+1+1) A c l A2 c2 h (((w.alloc (.cells #[.slice A l.length c,.slice A2 h.length c2] t)).alloc (.cells #[.slice none 0 0,.slice none 0 0] t)).alloc (.cells #[.int .i64 0,.int .i64 0,.int .i64 0,.int .i64 0,.int .i64 0,.int .i64 0,.string ⟨#[]⟩] u)):=by
 have e1:(w.alloc (.cells #[.slice A l.length c,.slice A2 h.length c2] t)).heap.size=w.heap.size+1:=by simp
 have e2:((w.alloc (.cells #[.slice A l.length c,.slice A2 h.length c2] t)).alloc (.cells #[.slice none 0 0,.slice none 0 0] t)).heap.size=w.heap.size+1+1:=by simp
 have k1:=RT.start (w.alloc (.cells #[.slice A l.length c,.slice A2 h.length c2] t)) none 0 0 none 0 0 t
 have k2:=RMs.start ((w.alloc (.cells #[.slice A l.length c,.slice A2 h.length c2] t)).alloc (.cells #[.slice none 0 0,.slice none 0 0] t)) zM u
 rw [e1] at k1
 rw [e2] at k2
 exact ⟨((VaA.start t hv hd).alloc _).alloc _,k1.below ((Below.refl _ _).alloc (Nat.le_refl _) _) k1.lt,k2,Nat.le_refl _,Nat.lt_succ_self _,Nat.lt_succ_self _⟩
end
set_option maxHeartbeats 8000000 in
set_option maxRecDepth 20000 in
theorem lrelease_any (A:Option Addr) (n c:Nat) (l:List Le) (A2:Option Addr) (n2 c2:Nat) (h:List Du) (id:Int) (w:World) (hv:El w w.heap.size (.slice A n c) l) (hd:Dl w w.heap.size (.slice A2 n2 c2) h) :
  Calls Tryz.prog 59 #[tv A n c A2 n2 c2,.int .i64 id] w (TME w (rlL l h id) (rlH l h id) (rlM l h id) (rlE l h id)):=by
 obtain ⟨rfl,hm1,hm2⟩:=hv.len
 obtain ⟨rfl,hm3,hm4⟩:=hd.len
 have H0:=Lh (RlW.start hv hd 31 56)
 have HV:=Lh hv
 have HRM:=Lh (fun p W (k:VaA w p A c l A2 c2 h W)=>removed_any A l.length c l A2 h.length c2 h id W k.el k.dl)
 clear hv hd hm1 hm2 hm3 hm4
 by_cases he:rlE l h id=0
 ·obtain ⟨t,k,hk,hka,_,hH,hL,hM⟩:=rlE_at he
  have HP:=Lh (fun p W (q:VaA w p A c l A2 c2 h W)=>lplace_any A l.length c l id W q.el t.asc (by have:=t.len;omega))
  unfold PlR at HP
  rw [hka] at HP
  rw [he] at HRM
  rw [he,hL,hM]
  generalize rlH l h id=K at*
  generalize kHas Le.id l id=O at*
  have HW:=Lh (fun p W (q:VaA w p A c l A2 c2 h W)=>ewithout_any A l.length c k l W q.el hk (by have:=t.len;omega))
  have hk' : (k:Int)<(l.length:Int):=by omega
  obtain ⟨X,hX⟩:∃ X,l[k]=X:=⟨_,rfl⟩
  rw [hX]
  have HXK:=Lh hX
  generalize l.eraseIdx k=LE at*
  clear he t hka hH hL hM hX
  go_enter Tryz.func59,Tryz.ntmps59
  obtain ⟨t0,t1,tl⟩:=H0.out.va.tb
  go_wp2_with fail
  clear t0 t1 tl
  obtain ⟨p,hp⟩:∃ p,p=w.heap.size:=⟨_,rfl⟩
  obtain ⟨r,hr⟩:∃ r,r=w.heap.size+1:=⟨_,rfl⟩
  obtain ⟨s,hs⟩:∃ s,s=w.heap.size+1+1:=⟨_,rfl⟩
  rw [←hs,←hr,←hp] at H0 ⊢
  clear hp hr hs
  generalize (((w.alloc (.cells #[.slice A l.length c,.slice A2 h.length c2] 31)).alloc (.cells #[.slice none 0 0,.slice none 0 0] 31)).alloc (.cells #[.int .i64 0,.int .i64 0,.int .i64 0,.int .i64 0,.int .i64 0,.int .i64 0,.string ⟨#[]⟩] 56))=w1 at*
  refine (HRM.out _ _ H0.out.va).mono ?_
  rintro e w2 ⟨A3,c3,rfl,hnw,hl,hb⟩
  have H1:=Lh (H0.out.below hb)
  have HK:=Lh hl
  have HNW:=Lh hnw
  have HSZ:=Lh (And.intro H0.out.rt.lt (And.intro H0.out.rm.lt H0.out.va.bel.size))
  clear hb hnw hl
  obtain ⟨t0,t1,tl⟩:=H1.out.va.tb
  go_wp2_with fail
  clear t0 t1 tl
  refine (HP.out _ _ H1.out.va).mono ?_
  rintro e w3 ⟨rfl,hb⟩
  have H2:=Lh (H1.out.below hb)
  have HK2:=Lh (HK.out.up hb)
  clear hb
  obtain ⟨b,o,rfl,hbw⟩:=HV.out.some_ (by omega)
  have HBR:=Lh (show p≠r∧b≠r∧p≠s∧b≠s∧r≠s by have:=H1.out.ne;omega)
  have HS0:=Lh (fun W (q:RlW w p r s (some ⟨b,o,none⟩) c l A2 c2 h W)=>show W.cell? ⟨p,0,none⟩=some (.slice (some ⟨b,o,none⟩) l.length c)∧W.cell? ⟨b,o+k*8,none⟩=some (.int .i64 X.m.id)∧W.cell? ⟨b,o+k*8+1,none⟩=some (.int .i64 X.m.rt)∧W.cell? ⟨b,o+k*8+2,none⟩=some (.int .i64 X.m.ep)∧W.cell? ⟨b,o+k*8+3,none⟩=some (.int .i64 X.m.ct)∧W.cell? ⟨b,o+k*8+4,none⟩=some (.int .i64 X.m.gn)∧W.cell? ⟨b,o+k*8+5,none⟩=some (.int .i64 X.m.st)∧W.cell? ⟨b,o+k*8+6,none⟩=some (.string X.m.bd) from by
   obtain ⟨⟨c0,c1,c2',c3,c4,c5,c6,c7⟩,_⟩:=q.va.el.c8 hk
   rw [HXK.out] at c0 c1 c2' c3 c4 c5 c6 c7
   exact ⟨q.va.tb.1,c0,c1,c2',c3,c4,c5,c6⟩)
  have HSa:=Lh (fun W v v2 (q:W.cell? ⟨p,0,none⟩=some (.slice (some ⟨b,o,none⟩) l.length c)∧W.cell? ⟨b,o+k*8,none⟩=some (.int .i64 X.m.id)∧W.cell? ⟨b,o+k*8+1,none⟩=some (.int .i64 X.m.rt)∧W.cell? ⟨b,o+k*8+2,none⟩=some (.int .i64 X.m.ep)∧W.cell? ⟨b,o+k*8+3,none⟩=some (.int .i64 X.m.ct)∧W.cell? ⟨b,o+k*8+4,none⟩=some (.int .i64 X.m.gn)∧W.cell? ⟨b,o+k*8+5,none⟩=some (.int .i64 X.m.st)∧W.cell? ⟨b,o+k*8+6,none⟩=some (.string X.m.bd))=>show (set2 W r v v2).cell? ⟨p,0,none⟩=some (.slice (some ⟨b,o,none⟩) l.length c)∧(set2 W r v v2).cell? ⟨b,o+k*8,none⟩=some (.int .i64 X.m.id)∧(set2 W r v v2).cell? ⟨b,o+k*8+1,none⟩=some (.int .i64 X.m.rt)∧(set2 W r v v2).cell? ⟨b,o+k*8+2,none⟩=some (.int .i64 X.m.ep)∧(set2 W r v v2).cell? ⟨b,o+k*8+3,none⟩=some (.int .i64 X.m.ct)∧(set2 W r v v2).cell? ⟨b,o+k*8+4,none⟩=some (.int .i64 X.m.gn)∧(set2 W r v v2).cell? ⟨b,o+k*8+5,none⟩=some (.int .i64 X.m.st)∧(set2 W r v v2).cell? ⟨b,o+k*8+6,none⟩=some (.string X.m.bd) from ⟨(set2_far HBR.out.1).trans q.1,(set2_far HBR.out.2.1).trans q.2.1,(set2_far HBR.out.2.1).trans q.2.2.1,(set2_far HBR.out.2.1).trans q.2.2.2.1,(set2_far HBR.out.2.1).trans q.2.2.2.2.1,(set2_far HBR.out.2.1).trans q.2.2.2.2.2.1,(set2_far HBR.out.2.1).trans q.2.2.2.2.2.2.1,(set2_far HBR.out.2.1).trans q.2.2.2.2.2.2.2⟩)
  have HSb:=Lh (fun W (q:W.cell? ⟨p,0,none⟩=some (.slice (some ⟨b,o,none⟩) l.length c)∧W.cell? ⟨b,o+k*8,none⟩=some (.int .i64 X.m.id)∧W.cell? ⟨b,o+k*8+1,none⟩=some (.int .i64 X.m.rt)∧W.cell? ⟨b,o+k*8+2,none⟩=some (.int .i64 X.m.ep)∧W.cell? ⟨b,o+k*8+3,none⟩=some (.int .i64 X.m.ct)∧W.cell? ⟨b,o+k*8+4,none⟩=some (.int .i64 X.m.gn)∧W.cell? ⟨b,o+k*8+5,none⟩=some (.int .i64 X.m.st)∧W.cell? ⟨b,o+k*8+6,none⟩=some (.string X.m.bd))=>show (set7 W s 0 X.m).cell? ⟨p,0,none⟩=some (.slice (some ⟨b,o,none⟩) l.length c)∧(set7 W s 0 X.m).cell? ⟨b,o+k*8,none⟩=some (.int .i64 X.m.id)∧(set7 W s 0 X.m).cell? ⟨b,o+k*8+1,none⟩=some (.int .i64 X.m.rt)∧(set7 W s 0 X.m).cell? ⟨b,o+k*8+2,none⟩=some (.int .i64 X.m.ep)∧(set7 W s 0 X.m).cell? ⟨b,o+k*8+3,none⟩=some (.int .i64 X.m.ct)∧(set7 W s 0 X.m).cell? ⟨b,o+k*8+4,none⟩=some (.int .i64 X.m.gn)∧(set7 W s 0 X.m).cell? ⟨b,o+k*8+5,none⟩=some (.int .i64 X.m.st)∧(set7 W s 0 X.m).cell? ⟨b,o+k*8+6,none⟩=some (.string X.m.bd) from ⟨(sets_far (p:=⟨p,0,none⟩) HBR.out.2.2.1 0 X.m.l).trans q.1,(sets_far (p:=⟨b,o+k*8,none⟩) HBR.out.2.2.2.1 0 X.m.l).trans q.2.1,(sets_far (p:=⟨b,o+k*8+1,none⟩) HBR.out.2.2.2.1 0 X.m.l).trans q.2.2.1,(sets_far (p:=⟨b,o+k*8+2,none⟩) HBR.out.2.2.2.1 0 X.m.l).trans q.2.2.2.1,(sets_far (p:=⟨b,o+k*8+3,none⟩) HBR.out.2.2.2.1 0 X.m.l).trans q.2.2.2.2.1,(sets_far (p:=⟨b,o+k*8+4,none⟩) HBR.out.2.2.2.1 0 X.m.l).trans q.2.2.2.2.2.1,(sets_far (p:=⟨b,o+k*8+5,none⟩) HBR.out.2.2.2.1 0 X.m.l).trans q.2.2.2.2.2.2.1,(sets_far (p:=⟨b,o+k*8+6,none⟩) HBR.out.2.2.2.1 0 X.m.l).trans q.2.2.2.2.2.2.2⟩)
  have HVW:=Lh (show VaA w p (some ⟨b,o,none⟩) c l A2 c2 h w3.drew from H2.out.va.below ((Below.refl _ _).drew))
  have HT0:=Lh (show w3.drew.cell? ⟨p,0,none⟩=some (.slice (some ⟨b,o,none⟩) l.length c)∧w3.drew.cell? ⟨b,o+k*8,none⟩=some (.int .i64 X.m.id)∧w3.drew.cell? ⟨b,o+k*8+1,none⟩=some (.int .i64 X.m.rt)∧w3.drew.cell? ⟨b,o+k*8+2,none⟩=some (.int .i64 X.m.ep)∧w3.drew.cell? ⟨b,o+k*8+3,none⟩=some (.int .i64 X.m.ct)∧w3.drew.cell? ⟨b,o+k*8+4,none⟩=some (.int .i64 X.m.gn)∧w3.drew.cell? ⟨b,o+k*8+5,none⟩=some (.int .i64 X.m.st)∧w3.drew.cell? ⟨b,o+k*8+6,none⟩=some (.string X.m.bd) from HS0.out w3.drew (H2.out.below ((Below.refl _ _).drew)))
  have HAF:=Lh (fun (w4:World) (hb:Below w3.drew.heap.size w3.drew w4)=>show RlW w p r s (some ⟨b,o,none⟩) c l A2 c2 h w4∧Dl w4 w4.heap.size (.slice A3 K.length c3) K from ⟨H2.out.below (drew_bel hb),HK2.out.up (drew_bel hb)⟩)
  have hrs:¬r=s:=HBR.out.2.2.2.2
  have hsr:¬s=r:=fun e=>HBR.out.2.2.2.2 e.symm
  go_wp2_with fail
  go_region_held3 (fun W=>W.cell? ⟨p,0,none⟩=some (.slice (some ⟨b,o,none⟩) l.length c)∧W.cell? ⟨b,o+k*8,none⟩=some (.int .i64 X.m.id)∧W.cell? ⟨b,o+k*8+1,none⟩=some (.int .i64 X.m.rt)∧W.cell? ⟨b,o+k*8+2,none⟩=some (.int .i64 X.m.ep)∧W.cell? ⟨b,o+k*8+3,none⟩=some (.int .i64 X.m.ct)∧W.cell? ⟨b,o+k*8+4,none⟩=some (.int .i64 X.m.gn)∧W.cell? ⟨b,o+k*8+5,none⟩=some (.int .i64 X.m.st)∧W.cell? ⟨b,o+k*8+6,none⟩=some (.string X.m.bd))
   (first | with_reducible exact HT0.out | with_reducible exact HT1.out | with_reducible exact HT2.out | with_reducible exact HT3.out)
   (first | (go_at_call 111;(with_reducible refine (HW.out _ _ HVW.out).mono ?_);rintro e w4 hq;obtain ⟨A4,c4,rfl,hnw4,hl4,hb4⟩:=eow_elv hq;obtain ⟨h4,hk4⟩:=HAF.out _ hb4;have H4:=Lh h4;have HT1:=Lh (HS0.out _ h4);have HT2:=Lh (HSa.out _ (.slice A4 LE.length c4) (.slice A3 K.length c3) HT1.out);have HT3:=Lh (HSb.out _ HT2.out);have HE4:=Lh hl4;have HK4:=Lh hk4;have HN4:=Lh hnw4;obtain ⟨r0,r1,f0,f1,rl⟩:=h4.rt;obtain ⟨s0,s1,s2,s3,s4,s5,s6,g0,g1,g2,g3,g4,g5,g6,sl⟩:=h4.rm;clear hq hb4 hl4 hk4 hnw4 h4))
  have HF:=Lh (show TME w LE K X.m 0 (.returned (.tuple #[.agg #[.slice A4 LE.length c4,.slice A3 K.length c3],X.m.v,.int .i64 0])) (set7 (set2 w4 r (.slice A4 LE.length c4) (.slice A3 K.length c3)) s 0 X.m) from
   ⟨A4,c4,A3,c3,rfl,nw_low HN4.out H2.out.va.bel.size,nw_low HNW.out HSZ.out.2.2,(El.offs HN4.out (show s<w3.drew.heap.size from H2.out.rm.lt) X.m.l 0 (HE4.out.set2 HN4.out (show r<w3.drew.heap.size from H2.out.rt.lt))).more (by simp),(Dl.offs HNW.out HSZ.out.2.1 X.m.l 0 (HK4.out.set2 HNW.out HSZ.out.1)).more (by simp),sets_below (by have:=H1.out.ne;omega) X.m.l 0 _ (set2_below H4.out.va.bel (by have:=H1.out.ne;omega))⟩)
  go_wp2
  exact bodyPost_ret (v:=.tuple #[.agg #[.slice A4 LE.length c4,.slice A3 K.length c3],X.m.v,.int .i64 0]) (by simp only [results,Tryz.results59];go_simp <;> rfl) rfl HF.out
 ·obtain ⟨hH,hL,hM⟩:=rlE_ne he
  have HN:=Lh (And.intro hL (And.intro hH hM))
  have hne:(rlE l h id != 0)=true:=bne_iff_ne.2 he
  rw [hH] at HRM
  clear he hH hL hM
  rw [HN.out.1,HN.out.2.1,HN.out.2.2]
  generalize rlE l h id=x at*
  go_enter Tryz.func59,Tryz.ntmps59
  obtain ⟨t0,t1,tl⟩:=H0.out.va.tb
  go_wp2_with fail
  clear t0 t1 tl
  obtain ⟨p,hp⟩:∃ p,p=w.heap.size:=⟨_,rfl⟩
  obtain ⟨r,hr⟩:∃ r,r=w.heap.size+1:=⟨_,rfl⟩
  obtain ⟨s,hs⟩:∃ s,s=w.heap.size+1+1:=⟨_,rfl⟩
  rw [←hs,←hr,←hp] at H0 ⊢
  clear hp hr hs
  generalize (((w.alloc (.cells #[.slice A l.length c,.slice A2 h.length c2] 31)).alloc (.cells #[.slice none 0 0,.slice none 0 0] 31)).alloc (.cells #[.int .i64 0,.int .i64 0,.int .i64 0,.int .i64 0,.int .i64 0,.int .i64 0,.string ⟨#[]⟩] 56))=w1 at*
  refine (HRM.out _ _ H0.out.va).mono ?_
  rintro e w2 ⟨A3,c3,rfl,hnw,hl,hb⟩
  have H1:=Lh (H0.out.below hb)
  clear hb hnw hl
  obtain ⟨r0,r1,f0,f1,rl⟩:=H1.out.rt
  obtain ⟨s0,s1,s2,s3,s4,s5,s6,g0,g1,g2,g3,g4,g5,g6,sl⟩:=H1.out.rm
  have hrs:¬r=s:=by have:=H1.out.ne;omega
  have hsr:¬s=r:=by have:=H1.out.ne;omega
  have HB:=Lh (show Below w.heap.size w (set7 (set2 w2 r (.slice none 0 0) (.slice none 0 0)) s 0 zM) from sets_below (by have:=H1.out.ne;omega) zM.l 0 _ (set2_below H1.out.va.bel (by have:=H1.out.ne;omega)))
  go_wp2
  exact bodyPost_ret (v:=.tuple #[.agg #[.slice none 0 0,.slice none 0 0],.agg #[.int .i64 0,.int .i64 0,.int .i64 0,.int .i64 0,.int .i64 0,.int .i64 0,.string ⟨#[]⟩],.int .i64 x]) (by simp only [results,Tryz.results59];go_simp <;> rfl) rfl (tme_nil rfl rfl rfl rfl HB.out)
end Go.Proofs.YtncgbldcjfbknaaGreat
/- Plain: lists as results in new memory. -/
namespace Go.Proofs.YtncgbldcjfbknaaGreat
open Go.RowKit
set_option linter.unusedVariables false
/-- A list of messages as a result, in new memory. -/
def LsV (w:World) (l:List Msg) (e:Ending) (w' : World):Prop:=∃ A c,e=.returned (.slice A l.length c)∧Nw w.heap.size A∧Ls w' w'.heap.size (.slice A l.length c) l∧Below w.heap.size w w'
theorem eclp_elv {w w' : World} {l:List Le} {e:Ending} (h:EClP w l e w'):ElV w l e w':=by
 obtain ⟨v,rfl,ho,hb⟩:=h
 obtain ⟨A,c,rfl⟩:=own_form ho
 exact ⟨A,c,rfl,nwv_of (nwv_own ho (Nat.le_refl _)),El.of_own ho,hb⟩
theorem dclp_dlv {w w' : World} {l:List Du} {e:Ending} (h:DClP w l e w'):DlV w l e w':=by
 obtain ⟨v,rfl,ho,hb⟩:=h
 obtain ⟨A,c,rfl⟩:=own_form ho
 exact ⟨A,c,rfl,nwv_of (nwv_own ho (Nat.le_refl _)),Dl.of_own ho,hb⟩
end Go.Proofs.YtncgbldcjfbknaaGreat
namespace Go.Proofs.YtncgbldcjfbknaaGreat
open Go.RowKit
set_option linter.unusedVariables false
theorem mgclp_lsv7 {w w' : World} {l:List Msg} {e:Ending} (h:MGClP w l e w'):LsV w l e w':=by
 obtain ⟨v,rfl,ho,hb⟩:=h
 obtain ⟨A,c,rfl⟩:=own_form ho
 exact ⟨A,c,rfl,nwv_of (nwv_own ho (Nat.le_refl _)),Ls.of_own ho,hb⟩
/-- A shard's box and the result's. -/
structure Cs7c (w:World) (p r:Nat) (S:Sh) (D:Sx) (W:World):Prop where
 sa:SAt w p S D W
 rb:SB8 W r zS zX
 ne:p<r∧w.heap.size≤r
section
variable {w W W' : World} {p r:Nat} {S:Sh} {D:Sx}
theorem Cs7c.below (h:Cs7c w p r S D W) (hb:Below W.heap.size W W'):Cs7c w p r S D W':=⟨h.sa.below hb,h.rb.up hb,h.ne⟩
theorem Cs7c.start (hs:SR w w.heap.size S D):Cs7c w w.heap.size (w.heap.size+1) S D ((w.alloc (.cells #[.bool S.lv,.int .i64 S.lo,.int .i64 S.hi,.slice D.A S.cs.length D.c,.int .i64 S.hd,.int .i64 S.sz,.slice D.A2 S.l.length D.c2,.slice D.A3 S.h.length D.c3] 33)).alloc (.cells #[.bool false,.int .i64 0,.int .i64 0,.slice none 0 0,.int .i64 0,.int .i64 0,.slice none 0 0,.slice none 0 0] 33)):=by
 have h1:=SB8.zero (w.alloc (.cells #[.bool S.lv,.int .i64 S.lo,.int .i64 S.hi,.slice D.A S.cs.length D.c,.int .i64 S.hd,.int .i64 S.sz,.slice D.A2 S.l.length D.c2,.slice D.A3 S.h.length D.c3] 33)) 33
 rw [show (w.alloc (.cells #[.bool S.lv,.int .i64 S.lo,.int .i64 S.hi,.slice D.A S.cs.length D.c,.int .i64 S.hd,.int .i64 S.sz,.slice D.A2 S.l.length D.c2,.slice D.A3 S.h.length D.c3] 33)).heap.size=w.heap.size+1 by simp] at h1
 exact ⟨(SAt.start _ hs).below ((Below.refl _ _).alloc (Nat.le_refl _) _),h1,by omega,by omega⟩
end
theorem sv_out7 {w W:World} {r:Nat} {S:Sh} {D:Sx} (hr:w.heap.size≤r) (hb:Below w.heap.size w W) (hn:D.nw (r+1)) (hs:SR W W.heap.size S D):SV w S (.returned (sv S D)) (set8s W r S D):=
 ⟨D,rfl,hn.low (by omega),SR.sets (hn.off (Nat.lt_succ_self r)) (S.l8 D) 0 W hs,set8s_below hr hb S D⟩
set_option maxHeartbeats 8000000 in
set_option maxRecDepth 20000 in
theorem sclone7c_any (S:Sh) (D:Sx) (w:World) (hs:SR w w.heap.size S D) (n2:S.cs.length≤1000) (n3:S.l.length≤1000) (n4:S.h.length≤1000) :
  Calls Tryz.prog 56 #[sv S D] w (SV w S):=by
 have H0:=Lh (Cs7c.start hs)
 have HA:=Lh (fun D W (k:Cs7c w w.heap.size (w.heap.size+1) S D W)=>(mgclone_any D.A S.cs.length D.c S.cs W k.sa.sr.ls n2).mono fun _ _ h=>mgclp_lsv7 h)
 have HL:=Lh (fun D W (k:Cs7c w w.heap.size (w.heap.size+1) S D W)=>(eclone_any D.A2 S.l.length D.c2 S.l W k.sa.sr.el n3).mono fun _ _ h=>eclp_elv h)
 have HH:=Lh (fun D W (k:Cs7c w w.heap.size (w.heap.size+1) S D W)=>(dclone_any D.A3 S.h.length D.c3 S.h W k.sa.sr.dl n4).mono fun _ _ h=>dclp_dlv h)
 obtain ⟨p,hp⟩:∃ p,p=w.heap.size:=⟨_,rfl⟩
 obtain ⟨r,hr⟩:∃ r,r=w.heap.size+1:=⟨_,rfl⟩
 have HPP:=Lh (And.intro hp hr)
 rw [←hr] at H0 HA HL HH
 have H0:=Lh (show Cs7c w p r S D _ from by rw [hp];exact H0.out)
 have HA:=Lh (show ∀ (D:Sx) (W:World) (k:Cs7c w p r S D W),Calls Tryz.prog 104 #[.slice D.A S.cs.length D.c] W (LsV W S.cs) from by rw [hp];exact HA.out)
 have HL:=Lh (show ∀ (D:Sx) (W:World) (k:Cs7c w p r S D W),Calls Tryz.prog 102 #[.slice D.A2 S.l.length D.c2] W (ElV W S.l) from by rw [hp];exact HL.out)
 have HH:=Lh (show ∀ (D:Sx) (W:World) (k:Cs7c w p r S D W),Calls Tryz.prog 106 #[.slice D.A3 S.h.length D.c3] W (DlV W S.h) from by rw [hp];exact HH.out)
 clear hs n2 n3 n4 hp hr
 go_enter Tryz.func56,Tryz.ntmps56
 go_upto_region 1 with (fail)
 rw [←HPP.out.2,←HPP.out.1]
 generalize (w.alloc (.cells #[.bool S.lv,.int .i64 S.lo,.int .i64 S.hi,.slice D.A S.cs.length D.c,.int .i64 S.hd,.int .i64 S.sz,.slice D.A2 S.l.length D.c2,.slice D.A3 S.h.length D.c3] 33)).alloc (.cells #[.bool false,.int .i64 0,.int .i64 0,.slice none 0 0,.int .i64 0,.int .i64 0,.slice none 0 0,.slice none 0 0] 33)=w1 at*
 obtain ⟨t0,t1,t2,t3,t4,t5,t6,t7,tl⟩:=H0.out.sa.s8.facts
 go_wp2_with fail
 clear t0 t1 t2 t3 t4 t5 t6 t7 tl
 refine (HA.out _ _ H0.out).mono ?_
 rintro e w2 ⟨A1,c1,rfl,n1,l1,b1⟩
 have H1:=Lh (H0.out.below b1)
 have H2:=Lh (show Cs7c w p r S ⟨A1,c1,D.A2,D.c2,D.A3,D.c3⟩ (w2.setCell ⟨p,3,none⟩ (.slice A1 S.cs.length c1)) from ⟨H1.out.sa.setA l1 (offb_nw n1 H0.out.sa.s8.lt),H1.out.rb.other (q:=⟨p,3,none⟩) (Nat.ne_of_lt H1.out.ne.1) _,H1.out.ne⟩)
 have N1:=Lh (nw_low n1 (show r+1≤_ from H0.out.rb.lt))
 obtain ⟨t0,t1,t2,t3,t4,t5,t6,t7,tl⟩:=H1.out.sa.s8.facts
 obtain ⟨f0,f1,f2,f3,f4,f5,f6,f7⟩:=H1.out.sa.s8.free
 clear n1 l1 b1 H0
 go_upto_region 2 with (fail)
 clear t0 t1 t2 t3 t4 t5 t6 t7 tl f0 f1 f2 f3 f4 f5 f6 f7 H1
 generalize w2.setCell ⟨p,3,none⟩ (.slice A1 S.cs.length c1)=w3 at*
 have HM:=Lh (H2.out.below (Below.refl _ _).drew)
 obtain ⟨t0,t1,t2,t3,t4,t5,t6,t7,tl⟩:=H2.out.sa.s8.facts
 go_wp2_with fail
 go_region_law (first
  | (go_simp;go_at_call 102;(with_reducible refine (HL.out _ _ HM.out).mono ?_);rintro e w4 ⟨A2,c2,rfl,n1,l1,b1⟩;have HEL:=Lh (And.intro (nw_low n1 (show r+1≤_ from HM.out.rb.lt)) l1);have HBL:=Lh (Below.refl w4.heap.size w4);(try (have HBH:=Lh (HBH.out.trans (b1.mono HBH.out.size))));have HM:=Lh (HM.out.below b1);obtain ⟨t0,t1,t2,t3,t4,t5,t6,t7,tl⟩:=HM.out.sa.s8.facts;obtain ⟨f0,f1,f2,f3,f4,f5,f6,f7⟩:=HM.out.sa.s8.free;clear n1 l1 b1)
  | (go_simp;go_at_call 106;(with_reducible refine (HH.out _ _ HM.out).mono ?_);rintro e w5 ⟨A3,c3,rfl,n1,l1,b1⟩;have HEH:=Lh (And.intro (nw_low n1 (show r+1≤_ from HM.out.rb.lt)) l1);have HBH:=Lh (Below.refl w5.heap.size w5);(try (have HBL:=Lh (HBL.out.trans (b1.mono HBL.out.size))));have HM:=Lh (HM.out.below b1);obtain ⟨t0,t1,t2,t3,t4,t5,t6,t7,tl⟩:=HM.out.sa.s8.facts;obtain ⟨f0,f1,f2,f3,f4,f5,f6,f7⟩:=HM.out.sa.s8.free;clear n1 l1 b1))
 all_goals
  have HN:=Lh (show Sx.nw ⟨A1,c1,A2,c2,A3,c3⟩ (r+1) from ⟨N1.out,HEL.out.1,HEH.out.1⟩)
  have hpr:=HM.out.ne.1
  have hpr1:p<r+1:=by omega
  have HS6:=Lh (HM.out.sa.setL (HEL.out.2.up HBL.out) (offb_nw HEL.out.1 hpr1))
  have HS7:=Lh (HS6.out.setH (((HEH.out.2.up HBH.out).offp (p:=⟨p,6,none⟩) (offb_nw HEH.out.1 hpr1) (.slice A2 S.l.length c2)).more (by simp)) (offb_nw HEH.out.1 hpr1))
  have HR7:=Lh ((HM.out.rb.other (q:=⟨p,6,none⟩) (Nat.ne_of_lt hpr) (.slice A2 S.l.length c2)).other (q:=⟨p,7,none⟩) (Nat.ne_of_lt hpr) (.slice A3 S.h.length c3))
  have HF:=Lh (sv_out7 HM.out.ne.2 HS7.out.bel HN.out HS7.out.sr)
  obtain ⟨r0,r1,r2,r3,r4,r5,r6,r7,rl⟩:=HM.out.rb.facts
  obtain ⟨g0,g1,g2,g3,g4,g5,g6,g7⟩:=HM.out.rb.free
  have hp1:¬p=r:=by omega
  have hp2:¬r=p:=by omega
  clear HS6 HS7 HR7 HEL HEH HBL HBH HM HN N1 HL HH HA H2 hpr hpr1
  go_wp2
  exact bodyPost_ret (v:=sv S ⟨A1,c1,A2,c2,A3,c3⟩) (by simp only [results,Tryz.results56];go_simp <;> rfl) rfl HF.out
theorem sclone_any (S:Sh) (D:Sx) (w:World) (hs:SR w w.heap.size S D) (n1:1≤S.cs.length) (n2:S.cs.length≤1000) (n3:S.l.length≤1000) (n4:S.h.length≤1000):Calls Tryz.prog 56 #[sv S D] w (SV w S):=sclone7c_any S D w hs n2 n3 n4
/-- The error of New, and what it returns. -/
noncomputable def neE (k lo hi:Int):Int:=if nwE k≠0 then nwE k else if spB lo hi=true then 0 else 1
noncomputable def neS (k lo hi:Int):Sh:=if neE k lo hi=0 then ⟨true,lo,hi,nwC k,0,0,[],[]⟩ else zS
/-- The stores of a zero shard. -/
abbrev z8 (W:World) (r:Nat):World:=((((((((W.setCell ⟨r,0,none⟩ (.bool false)).setCell ⟨r,1,none⟩ (.int .i64 0)).setCell ⟨r,2,none⟩ (.int .i64 0)).setCell ⟨r,3,none⟩ (.slice none 0 0)).setCell ⟨r,4,none⟩ (.int .i64 0)).setCell ⟨r,5,none⟩ (.int .i64 0)).setCell ⟨r,6,none⟩ (.slice none 0 0)).setCell ⟨r,7,none⟩ (.slice none 0 0))
theorem se_zero {w w' : World} {x:Int} {r:Nat} (hr:w.heap.size≤r) (hb:Below w.heap.size w w'):SE w zS x (.returned (.tuple #[.agg #[.bool false,.int .i64 0,.int .i64 0,.slice none 0 0,.int .i64 0,.int .i64 0,.slice none 0 0,.slice none 0 0],.int .i64 x])) (z8 w' r):=
 ⟨zX,rfl,zX_nw _,SR.zero,set8s_below hr hb zS zX⟩
theorem se_zeroA {w w' : World} {x:Int} {r:Nat} (hr:w.heap.size≤r) (hb:Below w.heap.size w w') (o:Obj):SE w zS x (.returned (.tuple #[.agg #[.bool false,.int .i64 0,.int .i64 0,.slice none 0 0,.int .i64 0,.int .i64 0,.slice none 0 0,.slice none 0 0],.int .i64 x])) ((z8 w' r).alloc o):=
 ⟨zX,rfl,zX_nw _,SR.zero,bal (set8s_below hr hb zS zX) o⟩
set_option maxHeartbeats 4000000 in
set_option maxRecDepth 20000 in
theorem snew_any (k lo hi:Int) (w:World) :
  Calls Tryz.prog 31 #[.int .i64 k,.int .i64 lo,.int .i64 hi] w (SE w (neS k lo hi) (neE k lo hi)):=by
 have R0:=Lh (SB8.zero w 33)
 have B0:=Lh ((Below.refl w.heap.size w).alloc (Nat.le_refl _) (.cells #[.bool false,.int .i64 0,.int .i64 0,.slice none 0 0,.int .i64 0,.int .i64 0,.slice none 0 0,.slice none 0 0] 33))
 have HN:=Lh (fun W=>gnew_any k W)
 have HSP:=Lh (fun W=>sspan_any lo hi W)
 go_enter Tryz.func31,Tryz.ntmps31
 go_wp2_with fail
 obtain ⟨r,hr⟩:∃ r,r=w.heap.size:=⟨_,rfl⟩
 have HRW:=Lh (show w.heap.size≤r by omega)
 rw [←hr]
 rw [←hr] at R0
 clear hr
 generalize w.alloc (.cells #[.bool false,.int .i64 0,.int .i64 0,.slice none 0 0,.int .i64 0,.int .i64 0,.slice none 0 0,.slice none 0 0] 33)=w1 at*
 refine (HN.out _).mono ?_
 rintro e w2 ⟨A,c,rfl,hnw,hl,hb⟩
 have B2:=Lh (btr B0.out hb)
 have R2:=Lh (R0.out.up hb)
 have L2:=Lh hl
 have N2:=Lh (nw_low hnw (show r+1≤_ from R0.out.lt))
 have HRL:=Lh (show r<w2.heap.size from Nat.lt_of_lt_of_le R0.out.lt hb.size)
 clear hb hl hnw
 by_cases h1:nwE k=0
 ·have HX1:=Lh h1
  rw [h1]
  clear h1
  have hrl:=HRL.out
  go_wp2_with fail
  refine (HSP.out _).mono ?_
  rintro e w3 ⟨rfl,rfl⟩
  obtain ⟨r0,r1,r2,r3,r4,r5,r6,r7,rl⟩:=R2.out.facts
  obtain ⟨f0,f1,f2,f3,f4,f5,f6,f7⟩:=R2.out.free
  cases h2:spB lo hi with
  | true=>
   have hE:neE k lo hi=0:=by unfold neE;rw [if_neg (fun g=>g HX1.out),if_pos h2]
   have hS:neS k lo hi=⟨true,lo,hi,nwC k,0,0,[],[]⟩:=if_pos hE
   have HF:=Lh (show SE w (neS k lo hi) (neE k lo hi) (.returned (.tuple #[.agg #[.bool true,.int .i64 lo,.int .i64 hi,.slice A (nwC k).length c,.int .i64 0,.int .i64 0,.slice none 0 0,.slice none 0 0],.int .i64 0])) (((((((((w2.setCell ⟨r,0,none⟩ (.bool true)).setCell ⟨r,1,none⟩ (.int .i64 lo)).setCell ⟨r,2,none⟩ (.int .i64 hi)).setCell ⟨r,3,none⟩ (.slice A (nwC k).length c)).setCell ⟨r,4,none⟩ (.int .i64 0)).setCell ⟨r,5,none⟩ (.int .i64 0)).setCell ⟨r,6,none⟩ (.slice none 0 0)).setCell ⟨r,7,none⟩ (.slice none 0 0)).alloc (.cells #[.slice A (nwC k).length c,.int .i64 0,.int .i64 0] 27)) from by
    rw [hE,hS]
    exact ⟨⟨A,c,none,0,none,0⟩,rfl,⟨nw_low N2.out (by have:=HRW.out;omega),nw_none,nw_none⟩,(SR.sets (S:=⟨true,lo,hi,nwC k,0,0,[],[]⟩) (D:=⟨A,c,none,0,none,0⟩) ⟨offb_nw N2.out (Nat.lt_succ_self r),offb_none,offb_none⟩ (Sh.l8 ⟨true,lo,hi,nwC k,0,0,[],[]⟩ ⟨A,c,none,0,none,0⟩) 0 w2 ⟨L2.out,El.nil,Dl.nil⟩).up ((Below.refl _ _).alloc (Nat.le_refl _) _),bal (set8s_below HRW.out B2.out ⟨true,lo,hi,nwC k,0,0,[],[]⟩ ⟨A,c,none,0,none,0⟩) _⟩)
   clear hE hS
   go_wp2
   exact bodyPost_ret (v:=.tuple #[.agg #[.bool true,.int .i64 lo,.int .i64 hi,.slice A (nwC k).length c,.int .i64 0,.int .i64 0,.slice none 0 0,.slice none 0 0],.int .i64 0]) (by simp only [results,Tryz.results31];go_simp <;> rfl) rfl HF.out
  | false=>
   have hE:neE k lo hi=1:=by unfold neE;rw [if_neg (fun g=>g HX1.out),if_neg (by simp [h2])]
   have hS:neS k lo hi=zS:=if_neg (by rw [hE];decide)
   have HF:=Lh (show SE w (neS k lo hi) (neE k lo hi) (.returned (.tuple #[.agg #[.bool false,.int .i64 0,.int .i64 0,.slice none 0 0,.int .i64 0,.int .i64 0,.slice none 0 0,.slice none 0 0],.int .i64 1])) ((z8 w2 r).alloc (.cells #[.slice A (nwC k).length c,.int .i64 0,.int .i64 0] 27)) from by
    rw [hE,hS]
    exact se_zeroA HRW.out B2.out _)
   clear hE hS
   go_wp2
   exact bodyPost_ret (v:=.tuple #[.agg #[.bool false,.int .i64 0,.int .i64 0,.slice none 0 0,.int .i64 0,.int .i64 0,.slice none 0 0,.slice none 0 0],.int .i64 1]) (by simp only [results,Tryz.results31];go_simp <;> rfl) rfl HF.out
 ·have hE:neE k lo hi=nwE k:=if_pos h1
  have hS:neS k lo hi=zS:=if_neg (by rw [hE];exact h1)
  have hne:(nwE k != 0)=true:=bne_iff_ne.2 h1
  obtain ⟨r0,r1,r2,r3,r4,r5,r6,r7,rl⟩:=R2.out.facts
  obtain ⟨f0,f1,f2,f3,f4,f5,f6,f7⟩:=R2.out.free
  have HF:=Lh (show SE w (neS k lo hi) (neE k lo hi) (.returned (.tuple #[.agg #[.bool false,.int .i64 0,.int .i64 0,.slice none 0 0,.int .i64 0,.int .i64 0,.slice none 0 0,.slice none 0 0],.int .i64 (nwE k)])) ((z8 w2 r).alloc (.cells #[.slice A (nwC k).length c,.int .i64 0,.int .i64 0] 27)) from by
   rw [hE,hS]
   exact se_zeroA HRW.out B2.out _)
  clear hE hS h1
  have hrl:=HRL.out
  generalize nwE k=x at*
  go_wp2
  exact bodyPost_ret (v:=.tuple #[.agg #[.bool false,.int .i64 0,.int .i64 0,.slice none 0 0,.int .i64 0,.int .i64 0,.slice none 0 0,.slice none 0 0],.int .i64 x]) (by simp only [results,Tryz.results31];go_simp <;> rfl) rfl HF.out
/-- What Put returns. -/
noncomputable def spuR (S:Sh) (M:Msg):Sh:=if puS S M=0 then ⟨S.lv,S.lo,S.hi,pbC S.cs S.hd S.sz M,ifE (puE S.cs S.hd S.sz M) S.hd,ifE (puE S.cs S.hd S.sz M) (S.sz+1),S.l,S.h⟩ else zS
theorem MBx.put_far {W:World} {p q:Nat} {M:Msg} (h:MBx W q M) (hq:q≠p) (S:Sh) (D:Sx):MBx (set8s W p S D) q M:=
 h.keep (fun o=>set8s_far (q:=⟨q,o,none⟩) hq) (fun o=>by rw [set8s_eq,World.frozen?_setCells]) (by rw [set8s_size];exact Nat.le_refl _)
theorem SB8.put_far {W:World} {p q:Nat} {T:Sh} {E:Sx} (h:SB8 W q T E) (hq:q≠p) (S:Sh) (D:Sx):SB8 (set8s W p S D) q T E:=
 h.keep (fun o=>set8s_far (q:=⟨q,o,none⟩) hq) (fun o=>by rw [set8s_eq,World.frozen?_setCells]) (by rw [set8s_size];exact Nat.le_refl _)
/-- A shard, a message and a result box. -/
structure SmrAt (w:World) (p q r:Nat) (S:Sh) (D:Sx) (M:Msg) (W:World):Prop where
 sm:SmAt w p q S D M W
 rs:SB8 W r zS zX
 ne:q<r
theorem SmrAt.below {w W W' : World} {p q r:Nat} {S:Sh} {D:Sx} {M:Msg} (h:SmrAt w p q r S D M W) (hb:Below W.heap.size W W'):SmrAt w p q r S D M W':=⟨h.sm.below hb,h.rs.up hb,h.ne⟩
theorem SmrAt.put {w W:World} {p q r:Nat} {S T:Sh} {D E:Sx} {M:Msg} (h:SmrAt w p q r S D M W) (hr:SR W W.heap.size T E) (ho:SOff T E p):SmrAt w p q r T E M (set8s W p T E):=
 ⟨⟨h.sm.sa.put hr ho,h.sm.mb.put_far (by have:=h.sm.lt;omega) T E,h.sm.lt⟩,h.rs.put_far (by have:=h.sm.lt;have:=h.ne;omega) T E,h.ne⟩
theorem SmrAt.start (w:World) (S:Sh) (D:Sx) (M:Msg) (t u v:TypeId) (hs:SR w w.heap.size S D):SmrAt w w.heap.size (w.heap.size+1) (w.heap.size+1+1) S D M (((w.alloc (.cells #[.bool S.lv,.int .i64 S.lo,.int .i64 S.hi,.slice D.A S.cs.length D.c,.int .i64 S.hd,.int .i64 S.sz,.slice D.A2 S.l.length D.c2,.slice D.A3 S.h.length D.c3] t)).alloc (.cells #[.int .i64 M.id,.int .i64 M.rt,.int .i64 M.ep,.int .i64 M.ct,.int .i64 M.gn,.int .i64 M.st,.string M.bd] u)).alloc (.cells #[.bool false,.int .i64 0,.int .i64 0,.slice none 0 0,.int .i64 0,.int .i64 0,.slice none 0 0,.slice none 0 0] v)):=by
 have h:=SB8.zero ((w.alloc (.cells #[.bool S.lv,.int .i64 S.lo,.int .i64 S.hi,.slice D.A S.cs.length D.c,.int .i64 S.hd,.int .i64 S.sz,.slice D.A2 S.l.length D.c2,.slice D.A3 S.h.length D.c3] t)).alloc (.cells #[.int .i64 M.id,.int .i64 M.rt,.int .i64 M.ep,.int .i64 M.ct,.int .i64 M.gn,.int .i64 M.st,.string M.bd] u)) v
 rw [show ((w.alloc (.cells #[.bool S.lv,.int .i64 S.lo,.int .i64 S.hi,.slice D.A S.cs.length D.c,.int .i64 S.hd,.int .i64 S.sz,.slice D.A2 S.l.length D.c2,.slice D.A3 S.h.length D.c3] t)).alloc (.cells #[.int .i64 M.id,.int .i64 M.rt,.int .i64 M.ep,.int .i64 M.ct,.int .i64 M.gn,.int .i64 M.st,.string M.bd] u)).heap.size=w.heap.size+1+1 by simp] at h
 exact ⟨(SmAt.start w S D M t u hs).alloc _,h,Nat.lt_succ_self _⟩
theorem SB8.all {W:World} {r:Nat} {T:Sh} {E:Sx} (h:SB8 W r T E):(W.cell? ⟨r,0,none⟩=some (.bool T.lv)∧W.cell? ⟨r,1,none⟩=some (.int .i64 T.lo)∧W.cell? ⟨r,2,none⟩=some (.int .i64 T.hi)∧W.cell? ⟨r,3,none⟩=some (.slice E.A T.cs.length E.c)∧W.cell? ⟨r,4,none⟩=some (.int .i64 T.hd)∧W.cell? ⟨r,5,none⟩=some (.int .i64 T.sz)∧W.cell? ⟨r,6,none⟩=some (.slice E.A2 T.l.length E.c2)∧W.cell? ⟨r,7,none⟩=some (.slice E.A3 T.h.length E.c3)∧r<W.heap.size)∧(W.frozen? ⟨r,0,none⟩=false∧W.frozen? ⟨r,1,none⟩=false∧W.frozen? ⟨r,2,none⟩=false∧W.frozen? ⟨r,3,none⟩=false∧W.frozen? ⟨r,4,none⟩=false∧W.frozen? ⟨r,5,none⟩=false∧W.frozen? ⟨r,6,none⟩=false∧W.frozen? ⟨r,7,none⟩=false):=⟨h.facts,h.free⟩
set_option maxHeartbeats 8000000 in
set_option maxRecDepth 20000 in
theorem sput_any (S:Sh) (D:Sx) (M:Msg) (w:World) (hs:SR w w.heap.size S D) :
  Calls Tryz.prog 32 #[sv S D,M.v] w (SE w (spuR S M) (puS S M)):=by
 have H0:=Lh (SmrAt.start w S D M 33 56 33 hs)
 have HV:=Lh (fun p D W (k:SAt w p S D W)=>sputerr_any S D M W k.sr)
 have HPB:=Lh (fun p D W (k:SAt w p S D W)=>pback_any D.A S.cs.length D.c S.cs S.hd S.sz M W k.sr.ls)
 clear hs
 go_enter Tryz.func32,Tryz.ntmps32
 obtain ⟨t0,t1,t2,t3,t4,t5,t6,t7,tl⟩:=H0.out.sm.sa.s8.facts
 obtain ⟨v0,v1,v2,v3,v4,v5,v6⟩:=H0.out.sm.mb.m7
 have vl:=H0.out.sm.mb.lt
 go_wp2_with fail
 clear t0 t1 t2 t3 t4 t5 t6 t7 tl v0 v1 v2 v3 v4 v5 v6 vl
 obtain ⟨p,hp⟩:∃ p,p=w.heap.size:=⟨_,rfl⟩
 obtain ⟨q,hq⟩:∃ q,q=w.heap.size+1:=⟨_,rfl⟩
 obtain ⟨r,hr⟩:∃ r,r=w.heap.size+1+1:=⟨_,rfl⟩
 rw [←hr,←hq,←hp]
 rw [←hr,←hq,←hp] at H0
 clear hp hq hr
 generalize (((w.alloc (.cells #[.bool S.lv,.int .i64 S.lo,.int .i64 S.hi,.slice D.A S.cs.length D.c,.int .i64 S.hd,.int .i64 S.sz,.slice D.A2 S.l.length D.c2,.slice D.A3 S.h.length D.c3] 33)).alloc (.cells #[.int .i64 M.id,.int .i64 M.rt,.int .i64 M.ep,.int .i64 M.ct,.int .i64 M.gn,.int .i64 M.st,.string M.bd] 56)).alloc (.cells #[.bool false,.int .i64 0,.int .i64 0,.slice none 0 0,.int .i64 0,.int .i64 0,.slice none 0 0,.slice none 0 0] 33))=w1 at*
 refine (HV.out _ _ _ H0.out.sm.sa).mono ?_
 rintro e w2 ⟨rfl,hb⟩
 have H1:=Lh (H0.out.below hb)
 clear hb
 have HNE:=Lh (show w.heap.size≤p∧p<q∧q<r from ⟨H1.out.sm.sa.old,H1.out.sm.lt,H1.out.ne⟩)
 by_cases h1:puS S M=0
 ·have HRR:=Lh (show spuR S M=⟨S.lv,S.lo,S.hi,pbC S.cs S.hd S.sz M,ifE (puE S.cs S.hd S.sz M) S.hd,ifE (puE S.cs S.hd S.sz M) (S.sz+1),S.l,S.h⟩ from if_pos h1)
  have HX0:exS S true=0:=by
   refine Decidable.by_contra fun h=>?_
   rw [puS_ex h] at h1
   exact h h1
  have HN:=Lh (ex_nums HX0)
  have HCL:=Lh (fun p D W (k:SAt w p S D W)=>sclone_any S D W k.sr HN.out.1 (by have:=HN.out;omega) (by have:=HN.out;omega) (by have:=HN.out;omega))
  have HX1:=Lh h1
  rw [h1]
  clear h1 HX0 HV
  generalize spuR S M=T at*
  generalize pbC S.cs S.hd S.sz M=cs at*
  generalize ifE (puE S.cs S.hd S.sz M) S.hd=hd at*
  generalize ifE (puE S.cs S.hd S.sz M) (S.sz+1)=sz at*
  generalize puE S.cs S.hd S.sz M=pe at*
  obtain ⟨t0,t1,t2,t3,t4,t5,t6,t7,tl⟩:=H1.out.sm.sa.s8.facts
  go_wp2_with fail
  clear t0 t1 t2 t3 t4 t5 t6 t7 tl
  refine (HCL.out _ _ _ H1.out.sm.sa).mono ?_
  rintro e w4 ⟨D4,rfl,hn4,hr4,hb⟩
  have H2:=Lh (H1.out.below hb)
  have H3:=Lh (show SmrAt w p q r S D4 M ((((((((w4.setCell ⟨p,0,none⟩ (.bool S.lv)).setCell ⟨p,1,none⟩ (.int .i64 S.lo)).setCell ⟨p,2,none⟩ (.int .i64 S.hi)).setCell ⟨p,3,none⟩ (.slice D4.A S.cs.length D4.c)).setCell ⟨p,4,none⟩ (.int .i64 S.hd)).setCell ⟨p,5,none⟩ (.int .i64 S.sz)).setCell ⟨p,6,none⟩ (.slice D4.A2 S.l.length D4.c2)).setCell ⟨p,7,none⟩ (.slice D4.A3 S.h.length D4.c3)) from H2.out.put hr4 (hn4.off H1.out.sm.sa.lt))
  have N4:=Lh (show D4.nw (r+1) from hn4.low H1.out.rs.lt)
  clear hn4 hr4 hb
  obtain ⟨⟨t0,t1,t2,t3,t4,t5,t6,t7,tl⟩,⟨f0,f1,f2,f3,f4,f5,f6,f7⟩⟩:=H2.out.sm.sa.s8.all
  obtain ⟨v0,v1,v2,v3,v4,v5,v6⟩:=H2.out.sm.mb.m7
  have vl:=H2.out.sm.mb.lt
  obtain ⟨hwp,hpq,hqr⟩:=HNE.out
  have hqp:¬q=p:=by omega
  have hpq' : ¬p=q:=by omega
  have hrp:¬r=p:=by omega
  have hpr:¬p=r:=by omega
  clear hwp hpq hqr
  go_wp2_with fail
  clear t0 t1 t2 t3 t4 t5 t6 t7 tl f0 f1 f2 f3 f4 f5 f6 f7 v0 v1 v2 v3 v4 v5 v6 vl
  generalize ((((((((w4.setCell ⟨p,0,none⟩ (.bool S.lv)).setCell ⟨p,1,none⟩ (.int .i64 S.lo)).setCell ⟨p,2,none⟩ (.int .i64 S.hi)).setCell ⟨p,3,none⟩ (.slice D4.A S.cs.length D4.c)).setCell ⟨p,4,none⟩ (.int .i64 S.hd)).setCell ⟨p,5,none⟩ (.int .i64 S.sz)).setCell ⟨p,6,none⟩ (.slice D4.A2 S.l.length D4.c2)).setCell ⟨p,7,none⟩ (.slice D4.A3 S.h.length D4.c3))=w5 at*
  refine (HPB.out _ _ _ H3.out.sm.sa).mono ?_
  rintro e w6 ⟨A6,c6,rfl,hn6,hl6,hb⟩
  have H4:=Lh (H3.out.below hb)
  have N6:=Lh (show Nw (r+1) A6 from nw_low hn6 H3.out.rs.lt)
  have H5:=Lh (H4.out.sm.sa.setRing hd sz hl6 (offb_nw hn6 H3.out.sm.sa.lt))
  clear hn6 hl6 hb
  have HF:=Lh (show SE w T (puS S M) (.returned (.tuple #[.agg #[.bool S.lv,.int .i64 S.lo,.int .i64 S.hi,.slice A6 cs.length c6,.int .i64 hd,.int .i64 sz,.slice D4.A2 S.l.length D4.c2,.slice D4.A3 S.h.length D4.c3],.int .i64 0])) (((((((((((w6.setCell ⟨p,3,none⟩ (.slice A6 cs.length c6)).setCell ⟨p,4,none⟩ (.int .i64 hd)).setCell ⟨p,5,none⟩ (.int .i64 sz)).setCell ⟨r,0,none⟩ (.bool S.lv)).setCell ⟨r,1,none⟩ (.int .i64 S.lo)).setCell ⟨r,2,none⟩ (.int .i64 S.hi)).setCell ⟨r,3,none⟩ (.slice A6 cs.length c6)).setCell ⟨r,4,none⟩ (.int .i64 hd)).setCell ⟨r,5,none⟩ (.int .i64 sz)).setCell ⟨r,6,none⟩ (.slice D4.A2 S.l.length D4.c2)).setCell ⟨r,7,none⟩ (.slice D4.A3 S.h.length D4.c3)) from by
   rw [HX1.out,HRR.out]
   have hne:=HNE.out
   exact ⟨⟨A6,c6,D4.A2,D4.c2,D4.A3,D4.c3⟩,rfl,⟨nw_low N6.out (by omega),nw_low N4.out.n2 (by omega),nw_low N4.out.n3 (by omega)⟩,SR.sets (S:=⟨S.lv,S.lo,S.hi,cs,hd,sz,S.l,S.h⟩) (D:=⟨A6,c6,D4.A2,D4.c2,D4.A3,D4.c3⟩) ⟨offb_nw N6.out (Nat.lt_succ_self r),offb_nw N4.out.n2 (Nat.lt_succ_self r),offb_nw N4.out.n3 (Nat.lt_succ_self r)⟩ (Sh.l8 ⟨S.lv,S.lo,S.hi,cs,hd,sz,S.l,S.h⟩ ⟨A6,c6,D4.A2,D4.c2,D4.A3,D4.c3⟩) 0 _ H5.out.sr,set8s_below (show w.heap.size≤r by omega) H5.out.bel ⟨S.lv,S.lo,S.hi,cs,hd,sz,S.l,S.h⟩ ⟨A6,c6,D4.A2,D4.c2,D4.A3,D4.c3⟩⟩)
  obtain ⟨⟨t0,t1,t2,t3,t4,t5,t6,t7,tl⟩,⟨f0,f1,f2,f3,f4,f5,f6,f7⟩⟩:=H4.out.sm.sa.s8.all
  obtain ⟨⟨r0,r1,r2,r3,r4,r5,r6,r7,rl⟩,⟨g0,g1,g2,g3,g4,g5,g6,g7⟩⟩:=H4.out.rs.all
  go_wp2
  exact bodyPost_ret (v:=.tuple #[.agg #[.bool S.lv,.int .i64 S.lo,.int .i64 S.hi,.slice A6 cs.length c6,.int .i64 hd,.int .i64 sz,.slice D4.A2 S.l.length D4.c2,.slice D4.A3 S.h.length D4.c3],.int .i64 0]) (by simp only [results,Tryz.results32];go_simp <;> rfl) rfl HF.out
 ·have HRR:=Lh (show spuR S M=zS from if_neg h1)
  have hne:(puS S M != 0)=true:=bne_iff_ne.2 h1
  clear h1 HV HPB
  generalize spuR S M=T at*
  generalize puS S M=x at*
  have HF:=Lh (show SE w T x (.returned (.tuple #[.agg #[.bool false,.int .i64 0,.int .i64 0,.slice none 0 0,.int .i64 0,.int .i64 0,.slice none 0 0,.slice none 0 0],.int .i64 x])) (z8 w2 r) from by
   rw [HRR.out]
   exact se_zero (by have:=HNE.out;omega) H1.out.sm.sa.bel)
  obtain ⟨⟨r0,r1,r2,r3,r4,r5,r6,r7,rl⟩,⟨g0,g1,g2,g3,g4,g5,g6,g7⟩⟩:=H1.out.rs.all
  go_wp2
  exact bodyPost_ret (v:=.tuple #[.agg #[.bool false,.int .i64 0,.int .i64 0,.slice none 0 0,.int .i64 0,.int .i64 0,.slice none 0 0,.slice none 0 0],.int .i64 x]) (by simp only [results,Tryz.results32];go_simp <;> rfl) rfl HF.out
end Go.Proofs.YtncgbldcjfbknaaGreat
