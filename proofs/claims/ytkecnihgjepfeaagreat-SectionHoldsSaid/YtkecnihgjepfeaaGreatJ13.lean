/- What is proved here: parts of the proof: Drp Dnx Drb Drc Drd Dnw. -/
import Derived.Test.YtkecnihgjepfeaaGreatJ12
import Derived.Laws.EntriesVeiled
namespace Go.Proofs.YtkecnihgjepfeaaGreat
open Go.RowKit
set_option linter.unusedVariables false
set_option linter.unusedSimpArgs false
set_option maxHeartbeats 8000000
set_option maxRecDepth 20000
def RpTru (_:World):Prop:=True
theorem run_make_ints (n:Nat) (h:n<=1000000) (w:World):(Instr.makeSlice 22 (.int .i64 n) (.int .i64 n)).run Tryz.prog w=.ok (.slice (some ⟨w.heap.size,0,none⟩) n n) (w.alloc (.cells (madeCells #[.int .i64 0] (n*1)) 3)):=by
 obtain ⟨i0,hi0,hz0⟩:=Option.map_eq_some_iff.1 info_ni
 simp only [Prod.mk.injEq] at hz0
 have hr:=run_make (P:=Tryz.prog) w 22 3 i0 (.int .i64 0) Tryz.underlying22 hi0 hz0.1 .i64 .i64 n n (by omega) (Int.le_refl _) (by rw [hz0.2.2];omega) (by omega)
 simp only [Int.toNat_natCast] at hr
 rw [hz0.2.1] at hr
 exact hr
structure RpAt (w:World) (g n k:Nat) (W:World):Prop where
 k0:1<=k
 kn:k<=n
 row:∃ cur,Rw W g 3 cur/\cur.length=n/\cur.take k=ics (List.replicate k (-1))
 bel:Below g w W
 gw:g=w.heap.size
theorem ics_rep_add (a b:Nat):ics (List.replicate a (-1))++ics (List.replicate b (-1))=ics (List.replicate (a+b) (-1)):=by
 rw [<-ics_app,List.replicate_append_replicate]
theorem rp_start {w W0:World} {g n:Nat} {cur:List Value} (h1:1<=n) (hg:g=w.heap.size) (hr:Rw W0 g 3 cur) (hl:cur.length=n) (hb:Below g w W0):RpAt w g n 1 (W0.setRow g (splice cur 0 (ics [-1])).toArray):=by
 refine ⟨nLR _,h1,⟨_,Rw.set hr 0 _,by rw [splice_len _ _ _ (by rw [hl];exact h1),hl],?_⟩,hb.grown (grown_setRow W0 g _) (by rw [hg];exact hb.size) (fun k e=>by injection e with e;subst e;exact nLR _),hg⟩
 unfold splice;rfl
theorem rp_fin {w W:World} {g n:Nat} (h:RpAt w g n n W) (hm:n<=maxLen):NIClP w (List.replicate n (-1)) (.returned (.slice (some ⟨g,0,none⟩) n n)) W:=by
 obtain ⟨cur,hr,hl,ht⟩:=h.row
 have hb:=h.bel
 have hg:=h.gw
 subst hg
 refine ⟨_,rfl,?_,hb⟩
 rw [List.length_replicate]
 exact Rw.own hr (nLR _) (nLR _) hm (by rw [hl,Nat.mul_one]) (by rw [Nat.mul_one];exact ht)
theorem rp_step {w W:World} {g n k m:Nat} (h:RpAt w g n k W) (hm:Nat.min k (n - k)=m):(∀ ty,(Builtin.copy_ #[22,22] ty #[.slice (some ⟨g,k,none⟩) (n - k) (n - k),.slice (some ⟨g,0,none⟩) k n]).run Tryz.prog W.drew=.ok (goInt m) (W.drew.setRow g (splice (h.row.choose) k (ics (List.replicate m (-1)))).toArray))/\(k<n->RpAt w g n (k+m) (W.drew.setRow g (splice (h.row.choose) k (ics (List.replicate m (-1)))).toArray)):=by
 obtain ⟨hr,hl,ht⟩:=h.row.choose_spec
 generalize h.row.choose=cur at*
 have hk0:=h.k0
 have hkn:=h.kn
 have hmm:m<=k/\m<=n - k:=⟨hm ▸ Nat.min_le_left _ _,hm ▸ Nat.min_le_right _ _⟩
 have hlm:(ics (List.replicate m (-1))).length=m:=by rw [ics_len];simp
 constructor
 ·intro ty
  rw [<-hm]
  rw [<-hm] at hlm hmm
  exact run_copy_sized W.drew 22 22 ty 3 1 g k (n - k) (n - k) ⟨g,0,none⟩ k n cur 3 _ Tryz.underlying22 (by obtain ⟨i0,hi0,hz0⟩:=Option.map_eq_some_iff.1 info_ni;simp only [Prod.mk.injEq] at hz0;rw [hi0];simp [hz0.2.1]) hr (by rw [hlm,Nat.mul_one]) (fun j v hj=>by
   rw [add_mk,Nat.zero_add]
   have hjm:j<Nat.min k (n - k):=by have:=(List.getElem?_eq_some_iff.1 hj).1;rw [hlm] at this;exact this
   refine Rw.cell hr ?_
   have h1:cur[j]? = (cur.take k)[j]?:=by rw [List.getElem?_take_of_lt (by omega)]
   rw [h1,ht,<-hj]
   have hjk:j<k:=by have:=hmm.1;omega
   simp [ics,List.getElem?_replicate,hjk]
   exact hjm) (by rw [hlm,hl];omega) (ics_one _)
 ·intro hkn'
  refine ⟨by omega,by omega,⟨_,Rw.set (show Rw W.drew g 3 cur from hr) k _,by rw [splice_len _ _ _ (by rw [hlm,hl];omega),hl],?_⟩,h.bel.drew.grown (grown_setRow W.drew g _) (by rw [h.gw];exact h.bel.size) (fun k e=>by injection e with e;subst e;exact nLR _),h.gw⟩
  rw [<-ics_rep_add,<-ht]
  unfold splice
  rw [<-List.append_assoc]
  exact List.take_left' (by rw [List.length_append,hlm,List.length_take,hl,Nat.min_eq_left hkn])
theorem repeat_one (xb n:Nat) (w:World) (h1:1<=n) (h6:n<=6) (hx:w.cell? ⟨xb,0,none⟩=some (.int .i64 (-1))) (hl:xb<w.heap.size) :
  Calls Tryz.prog 41 #[.slice (some ⟨xb,0,none⟩) 1 1,.int .i64 (n:Int)] w (NIClP w (List.replicate n (-1))):=by
 have HM:=Lh (mul_one n h6)
 have h0:((n:Int)<0)=False:=by simp
 have hc1:IntKind.u64.wrap (n:Int)=n:=by rw [IntKind.wrap_u64];omega
 have hc2:IntKind.i64.wrap (n:Int)=n:=IntWalk.i64_in _ (by omega)
 have hn2:¬((9223372036854775807:Int)<n):=by omega
 obtain ⟨g,hg⟩:∃ g,g=w.heap.size:=⟨_,rfl⟩
 have hmk:=run_make_ints n (by omega) w
 rw [<-hg] at hmk
 obtain ⟨W0,hW0⟩:∃ W0,W0=w.alloc (.cells (madeCells #[.int .i64 0] (n*1)) 3):=⟨_,rfl⟩
 have hR0:Rw W0 g 3 (madeCells #[.int .i64 0] (n*1)).toList:=by rw [hW0,hg];exact Rw.fresh w _ _
 have hL0:(madeCells #[.int .i64 0] (n*1)).toList.length=n:=by simp [size_madeCells]
 have hB0:Below g w W0:=by rw [hW0,hg];exact (Below.refl _ _).alloc (nLR _) _
 rw [<-hW0] at hmk
 generalize (madeCells #[.int .i64 0] (n*1)).toList=cur0 at*
 have hcp:∀ ty,(Builtin.copy_ #[22,22] ty #[.slice (some ⟨g,0,none⟩) n n,.slice (some ⟨xb,0,none⟩) 1 1]).run Tryz.prog W0=.ok (goInt (Nat.min 1 n)) (W0.setRow g (splice cur0 0 (ics [-1])).toArray):=fun ty=>
  run_copy_sized W0 22 22 ty 3 1 g 0 n n ⟨xb,0,none⟩ 1 1 cur0 3 (ics [-1]) Tryz.underlying22 (by obtain ⟨i0,hi0,hz0⟩:=Option.map_eq_some_iff.1 info_ni;simp only [Prod.mk.injEq] at hz0;rw [hi0];simp [hz0.2.1]) hR0 (by rw [show Nat.min 1 n=1 from Nat.min_eq_left h1];rfl) (fun j v hj=>by
   rw [add_mk,Nat.zero_add]
   cases j with
   | zero=>exact (hB0.cell (p:=⟨xb,0,none⟩) (by rw [hg];exact hl)).trans (by rw [hx];exact hj)
   | succ j=>simp [ics] at hj) (by rw [hL0];exact h1) (ics_one _)
 rw [show Nat.min 1 n=1 from Nat.min_eq_left h1] at hcp
 have HS:=Lh (rp_start h1 hg hR0 hL0 hB0)
 generalize W0.setRow g (splice cur0 0 (ics [-1])).toArray=W1 at*
 clear hR0 hL0 hB0 hW0 hx hl
 have HG:=Lh hg
 clear hg
 go_enter Tryz.func41,Tryz.ntmps41
 go_wp2_with fail
 refine (HM.out _).mono ?_
 rintro e w1 ⟨rfl,rfl⟩
 go_wp2_with fail
 go_loopw [8] (fun kv wr=>∃ k:Nat,kv=.int .i64 k/\Hid (RpAt w g n k wr)) (fun kv _=>n - (intOf kv).toNat)
 case atStart=>exact ⟨1,rfl,HS⟩
 case round=>
  obtain ⟨k,rfl,HR⟩:=hrel
  by_cases hkn:k<n
  ·obtain ⟨m,hm⟩:∃ m,Nat.min k (n - k)=m:=⟨_,rfl⟩
   obtain ⟨hcp2,hnx⟩:=rp_step HR.out hm
   have HN:=Lh (hnx hkn)
   have HMM:=Lh (show 1<=m/\k+m<=n by have:=HR.out.k0;rw [<-hm];show 1<=min k (n - k)/\k+min k (n - k)<=n;omega)
   have hsum:IntKind.i64.wrap ((k:Int)+(m:Int))=((k+m:Nat):Int):=by rw [IntWalk.i64_in _ (by have:=HMM.out;omega)];omega
   have hsum2:wrap64 ((k:Int)+(m:Int))=((k+m:Nat):Int):=by rw [IntWalk.wrap64_in _ (by have:=HMM.out;omega)];omega
   generalize wr.drew.setRow g _=W2 at*
   have hlt:(k:Int)<(n:Int):=by omega
   have hle:k<=n:=by omega
   have hnk:¬n=k:=by omega
   clear hnx hm hcp hmk
   go_wp2
   go_region_held3 (fun W=>RpTru W) (exact trivial) (first | (fail))
   go_wp2
   go_roundw
   case rel=>exact ⟨k+m,by rw [Int.natCast_add],HN⟩
   case measure=>have:=HMM.out;simp [intOf];omega
  ·have hke:k=n:=by have:=HR.out.kn;omega
   subst hke
   have HF:=Lh (rp_fin HR.out (by unfold maxLen;omega))
   clear hkn
   have hlt:¬((k:Int)<(k:Int)):=by omega
   go_wp2
   go_ret
   exact HF.out
def nwL (n k:Nat):List Sp:=(List.range k).map fun (i:Nat)=>⟨(i:Int)*65536 / n,((i:Int)+1)*65536 / n - 1,i⟩
theorem nwL_succ (n k:Nat):nwL n (k+1)=nwL n k++[⟨(k:Int)*65536 / n,((k:Int)+1)*65536 / n - 1,k⟩]:=by simp [nwL,List.range_succ]
theorem nwL_len (n k:Nat):(nwL n k).length=k:=by simp [nwL]
def nwE10 (s l:Int):Int:=if 1<=s/\s<=6/\1<=l/\l<=s then 0 else 1
def nwD (s l:Int):Dd:=if nwE10 s l=0 then ⟨1,nwL l.toNat l.toNat,List.replicate s.toNat (-1)⟩ else zD10
structure NA (w:World) (r y:Nat) (d:Dd) (X:Dx) (W:World):Prop where
 rb:Db10 W r zD10 zDx
 xb:Db10 W y d X
 ol:W.ownsRow (r+1) 113 3 (.slice X.A d.l.length X.c) d.l.length (scs d.l)
 of:W.ownsRow (r+1) 3 1 (.slice X.A2 d.F.length X.c2) d.F.length (ics d.F)
 d1:∀ k,(Value.slice X.A d.l.length X.c).ownBlock=some k->(Value.slice X.A2 d.F.length X.c2).ownBlock≠some k
 d2:∀ k,(Value.slice X.A d.l.length X.c).ownBlock=some k->k≠y
 d3:∀ k,(Value.slice X.A2 d.F.length X.c2).ownBlock=some k->k≠y
 ne:r=w.heap.size/\r<y
 bel:Below w.heap.size w W
theorem Db10.grownO {W W' : World} {p:Nat} {d:Dd} {X:Dx} {ob:Option Nat} (h:Db10 W p d X) (hg:W.grownBy W' ob) (hne:ob≠some p):Db10 W' p d X:=
 h.keep (fun o=>hg.cell_far ⟨p,o,none⟩ h.lt (fun e=>hne e.symm)) (fun o=>hg.frozen_far ⟨p,o,none⟩ h.lt (fun e=>hne e.symm)) hg.size
theorem own_farO {W W' : World} {base size n:Nat} {ob:Option Nat} {t:TypeId} {v:Value} {xs:List Value} (h:W.ownsRow base t size v n xs) (hg:W.grownBy W' ob) (hne:∀ k,v.ownBlock=some k->ob≠some k):W'.ownsRow base t size v n xs:=
 ⟨h.1,h.2.imp_right fun ⟨k,cap,cur,hv,hk,hh,rr⟩=>⟨k,cap,cur,hv,hk,(hg.block k (Array.getElem?_eq_some_iff.1 hh).1 (by
  have:=hne k (by rw [hv];rfl)
  exact fun e=>this e.symm)).trans hh,rr⟩⟩
section
variable {w W W' : World} {r y:Nat} {d:Dd} {X:Dx}
theorem NA.below (h:NA w r y d X W) (hb:Below W.heap.size W W'):NA w r y d X W':=
 ⟨h.rb.up hb,h.xb.up hb,own_up10 h.ol hb,own_up10 h.of hb,h.d1,h.d2,h.d3,h.ne,h.bel.trans (hb.mono h.bel.size)⟩
theorem NA.drew (h:NA w r y d X W):NA w r y d X W.drew:=h.below (Below.refl _ _).drew
theorem NA.alloc (h:NA w r y d X W) (o:Obj):NA w r y d X (W.alloc o):=h.below ((Below.refl _ _).alloc (nLR _) o)
theorem NA.start {F:List Int} {A2:Option Addr} {c2:Nat} (hr:r=w.heap.size) (hb:Below w.heap.size w W) (hd:Db10 W r zD10 zDx) (hf:W.ownsRow (r+1) 3 1 (.slice A2 F.length c2) F.length (ics F)) (t:TypeId) :
  NA w r W.heap.size ⟨1,[],F⟩ ⟨none,0,A2,c2⟩ (W.alloc (.cells #[.int .i64 1,.slice none 0 0,.slice A2 F.length c2] t)):=by
 have hlt:=hd.lt
 have hs:=hb.size
 have hk:∀ k,(Value.slice A2 F.length c2).ownBlock=some k->k≠W.heap.size:=fun k e=>by have:=(hf.lt k e).2;omega
 exact ⟨hd.alloc _,Db10.start W ⟨1,[],F⟩ ⟨none,0,A2,c2⟩ t,World.ownsRow_nil _ _ _ _,own_up10 hf ((Below.refl _ _).alloc (nLR _) _),fun k e=>by simp [Value.ownBlock] at e,fun k e=>by simp [Value.ownBlock] at e,hk,⟨hr,hlt⟩,hb.alloc hs _⟩
theorem NA.nw (h:NA w r y d X W):X.nw w.heap.size:=by
 have:=h.ne
 exact ⟨nwv_of (nwv_own h.ol (by omega)),nwv_of (nwv_own h.of (by omega))⟩
theorem NA.dr (h:NA w r y d X W):DR W W.heap.size d X:=⟨Pl.of_own h.ol,Fl.of_own h.of⟩
theorem NA.app (h:NA w r y d X W) {S:Sp} {g cap:Nat} (ho:W'.ownsRow (r+1) 113 3 (.slice (some ⟨g,0,none⟩) (d.l.length+1) cap) (d.l.length+1) (scs d.l++S.l)) (hg:W.grownBy W' (Value.slice X.A d.l.length X.c).ownBlock) (hat:(Value.slice X.A d.l.length X.c).ownBlock=some g\/g=W.heap.size) :
  (W'.cell? ⟨y,1,none⟩=some (.slice X.A d.l.length X.c)/\W'.frozen? ⟨y,1,none⟩=false/\y<W'.heap.size)/\NA w r y ⟨d.vn,d.l++[S],d.F⟩ ⟨some ⟨g,0,none⟩,cap,X.A2,X.c2⟩ (W'.setCell ⟨y,1,none⟩ (.slice (some ⟨g,0,none⟩) (d.l.length+1) cap)):=by
 have hn:=h.ne
 have hrl:=h.rb.lt
 have hor:(Value.slice X.A d.l.length X.c).ownBlock≠some r:=fun e=>by have:=(h.ol.lt r e).1;omega
 have hoy:(Value.slice X.A d.l.length X.c).ownBlock≠some y:=fun e=>h.d2 y e rfl
 have hx:=h.xb.grownO hg hoy
 have hr:=h.rb.grownO hg hor
 have hf:=own_farO h.of hg fun k hk e=>h.d1 k e hk
 have hgy:g≠y:=by
  rcases hat with e | e
  ·exact h.d2 g e
  ·have:=h.xb.lt;omega
 have hb:Below w.heap.size w W':=h.bel.grown hg h.bel.size fun k hk=>by have:=(h.ol.lt k hk).1;omega
 refine ⟨⟨hx.c1,hx.fr 1,hx.lt⟩,hr.other (a:=⟨y,1,none⟩) (by show y≠r;omega) _,⟨?_,?_,?_,fun o=>?_,?_⟩,?_,own_oth hf (fun k hk=>h.d3 k hk) _,fun k hk e=>?_,fun k hk=>?_,h.d3,h.ne,hb.setCell (p:=⟨y,1,none⟩) (show w.heap.size<=y by omega) _⟩
 ·simpa [go_sem] using hx.c0
 ·simp [go_sem,hx.c1]
 ·simpa [go_sem] using hx.c2
 ·simpa [go_sem] using hx.fr o
 ·simpa using hx.lt
 ·have k:=own_oth ho (a:=⟨y,1,none⟩) (fun k hk=>by simp [Value.ownBlock] at hk;subst hk;exact hgy) (.slice (some ⟨g,0,none⟩) (d.l.length+1) cap)
  have e1:scs (d.l++[S])=scs d.l++S.l:=by simp [scs]
  show World.ownsRow _ _ _ _ (.slice (some ⟨g,0,none⟩) (d.l++[S]).length cap) (d.l++[S]).length (scs (d.l++[S]))
  rw [e1,List.length_append,List.length_singleton]
  exact k
 ·simp [Value.ownBlock] at hk
  subst hk
  rcases hat with e2 | e2
  ·exact h.d1 _ e2 e
  ·have:=(h.of.lt _ e).2;omega
 ·simp [Value.ownBlock] at hk
  subst hk
  exact hgy
theorem NA.out (h:NA w r y d X W):DE w.heap.size w d 0 (.returned (.tuple #[dv d X,.int .i64 0])) (((W.setCell ⟨r,0,none⟩ (.int .i64 d.vn)).setCell ⟨r,1,none⟩ (.slice X.A d.l.length X.c)).setCell ⟨r,2,none⟩ (.slice X.A2 d.F.length X.c2)):=by
 have hp:=h.ne
 have hl:Pl W r.succ (.slice X.A d.l.length X.c) d.l\/True:=.inr trivial
 have n1:X.nw (r+1):=⟨nwv_of (nwv_own h.ol (nLR _)),nwv_of (nwv_own h.of (nLR _))⟩
 have f:∀ o,DOff d X (⟨r,o,none⟩:Addr).block:=fun o=>n1.off (Nat.lt_succ_self r)
 exact ⟨X,rfl,h.nw,(((h.dr.offp (q:=⟨r,0,none⟩) (f 0) _).offp (q:=⟨r,1,none⟩) (f 1) _).offp (q:=⟨r,2,none⟩) (f 2) _).more (by simp),((h.bel.setCell (p:=⟨r,0,none⟩) (show w.heap.size<=r by omega) _).setCell (p:=⟨r,1,none⟩) (show w.heap.size<=r by omega) _).setCell (p:=⟨r,2,none⟩) (show w.heap.size<=r by omega) _⟩
end
theorem new_out0 {w W:World} {r:Nat} (hr:r=w.heap.size) (hb:Below w.heap.size w W) (x:Int):DE w.heap.size w zD10 x (.returned (.tuple #[.agg #[.int .i64 0,.slice none 0 0,.slice none 0 0],.int .i64 x])) (((W.setCell ⟨r,0,none⟩ (.int .i64 0)).setCell ⟨r,1,none⟩ (.slice none 0 0)).setCell ⟨r,2,none⟩ (.slice none 0 0)):=
 ⟨zDx,rfl,zDx_nw _,DR.zero,((hb.setCell (p:=⟨r,0,none⟩) (show w.heap.size<=r by omega) _).setCell (p:=⟨r,1,none⟩) (show w.heap.size<=r by omega) _).setCell (p:=⟨r,2,none⟩) (show w.heap.size<=r by omega) _⟩
abbrev stV (p:Nat):Value:=.func (.func 128) #[] #[.pointer (some ⟨p,0,none⟩)]
theorem slot1_any (s:Int) (p:Nat) (A2:Option Addr) (n c2:Nat) (w:World) (hp:p<w.heap.size) (hc:w.cell? ⟨p,2,none⟩=some (.slice A2 n c2)) (hn:n<=1000) :
  Calls Tryz.prog 128 #[.int .i64 s,.pointer (some ⟨p,0,none⟩)] w fun e w'=>e=.returned (.bool (decide (slotP n s)))/\w=w':=by
 have HW:=Lh (fun w1=>rwithin_any s 0 ((n:Int) - 1) w1)
 have HD:=Lh (show wiR s 0 ((n:Int) - 1)=decide (slotP n s) by unfold wiR;rw [Bool.eq_iff_iff];simp only [decide_eq_true_eq];unfold slotP;omega)
 have hsub:IntKind.i64.wrap ((n:Int) - 1)=(n:Int) - 1:=IntWalk.i64_in _ (by omega)
 rw [HD.out] at HW
 generalize decide (slotP n s)=r at*
 clear HD
 go_enter Tryz.func128,Tryz.ntmps128
 go_wp2_with fail
 refine (HW.out _).mono ?_
 rintro e w1 ⟨rfl,rfl⟩
 go_wp2
 go_ret
 exact ⟨rfl,rfl⟩
theorem slotTest_any (d:Dd) (X:Dx) (w:World) :
  Calls Tryz.prog 101 #[dv d X] w fun e w'=>e=.returned (stV w.heap.size)/\w' = w.alloc (.cells #[.int .i64 d.vn,.slice X.A d.l.length X.c,.slice X.A2 d.F.length X.c2] 34):=by
 have hmf:∀ (fn:Fn) (first cap:Array Value) (w:World),(Instr.makeFunc fn first cap).run Tryz.prog w=.ok (.func fn first cap) w:=fun _ _ _ _=>rfl
 go_enter Tryz.func101,Tryz.ntmps101
 go_wp2
 go_ret
 exact ⟨rfl,rfl⟩
abbrev St2 (W:World) (q p n:Nat):Prop:=W.cell? ⟨q,0,none⟩=some (stV p)/\q<W.heap.size/\p<W.heap.size/\∃ A2 c2,W.cell? ⟨p,2,none⟩=some (.slice A2 n c2)
theorem St2.up {W W' : World} {q p n:Nat} (h:St2 W q p n) (hb:Below W.heap.size W W'):St2 W' q p n:=by
 obtain ⟨h1,h2,h3,A2,c2,h4⟩:=h
 exact ⟨(hb.cell (p:=⟨q,0,none⟩) h2).trans h1,Nat.lt_of_lt_of_le h2 hb.size,Nat.lt_of_lt_of_le h3 hb.size,A2,c2,(hb.cell (p:=⟨p,2,none⟩) h3).trans h4⟩
theorem svclo_any (d:Sp) (q p n:Nat) (w:World) (hs:St2 w q p n) (hn:n<=1000) :
  Calls Tryz.prog 103 #[d.v,.pointer (some ⟨q,0,none⟩)] w fun e w'=>e=.returned (.bool (!decide (slotP n d.sh)))/\Below w.heap.size w w':=by
 have HB:=Lh ((Below.refl w.heap.size w).alloc (nLR _) (.cells #[.int .i64 d.lo,.int .i64 d.hi,.int .i64 d.sh] 113))
 obtain ⟨h1,h2,h3,A2,c2,h4⟩:=hs
 have HF:=Lh (slot1_any d.sh p A2 n c2 (w.alloc (.cells #[.int .i64 d.lo,.int .i64 d.hi,.int .i64 d.sh] 113)) (by simp;omega) (by rw [World.cell?_alloc_lt _ _ _ (by exact h3)];exact h4) hn)
 generalize decide (slotP n d.sh)=r at*
 clear h4
 go_enter Tryz.func103,Tryz.ntmps103
 go_wp2_with fail
 refine HF.out.mono ?_
 rintro e w1 ⟨rfl,rfl⟩
 go_wp2
 go_ret
 exact ⟨rfl,HB.out⟩
def MsP (n:Nat) (l:List Sp) (w:World) (e:Ending) (w' : World):Prop:=∃ r:Int,e=.returned (.int .i64 r)/\decide (0<=r)=(!msD n l)/\Below w.heap.size w w'
theorem msfunc_any (A:Option Addr) (n c:Nat) (l:List Sp) (q p m:Nat) (w:World) (hv:Pl w w.heap.size (.slice A n c) l) (hs:St2 w q p m) (hm:m<=1000) :
  Calls Tryz.prog 106 #[.slice A n c,.func (.func 103) #[] #[.pointer (some ⟨q,0,none⟩)]] w (MsP m l w):=by
 obtain ⟨rfl,hm1,hm2⟩:=hv.len
 have hL:l.length<=9223372036854775807:=by unfold maxLen at hm2;omega
 have HV:=Lh hv
 have HS:=Lh hs
 have HM:=Lh hm
 have HB:=Lh (Below.refl w.heap.size w)
 clear hv hm1 hm2 hs hm
 go_enter Tryz.func106,Tryz.ntmps106
 go_wp2
 go_loopw [8] (fun i wr=>∃ k:Nat,k<=l.length/\i=.int .i64 k/\Below w.heap.size w wr/\∀ j,j<k->slotP m (sg l j).sh) (fun i _=>l.length - (intOf i).toNat)
 case atStart=>exact ⟨0,by omega,rfl,HB.out,fun j h=>absurd h (by omega)⟩
 case round=>
  obtain ⟨k,hk,rfl,hb,hno⟩:=hrel
  have HN:=Lh hno
  have HVK:=Lh (HV.out.below hb)
  have HSK:=Lh (HS.out.up hb)
  have HB:=Lh hb
  clear hno hb
  by_cases hlt:k<l.length
  ·obtain ⟨b,o,rfl,hb,c0,c1,c2⟩:=HVK.out.atg hlt
   have HF:=Lh (fun w1 hp=>svclo_any (sg l k) q p m w1 hp HM.out)
   by_cases he:slotP m (sg l k).sh
   ·have HNN:=Lh (show ∀ j,j<k+1->slotP m (sg l j).sh from fun j h=>by
     by_cases e:j=k
     ·rw [e];exact he
     ·exact HN.out j (by omega))
    rw [decide_eq_true he] at HF
    clear he
    generalize sg l k=M at*
    go_wp2_with fail
    refine (HF.out _ HSK.out).mono ?_
    rintro e w1 ⟨rfl,hb1⟩
    have HB1:=Lh (HB.out.trans (hb1.mono HB.out.size))
    clear hb1
    go_wp2
    go_roundw
    case rel=>exact ⟨k+1,by omega,by go_num,HB1.out,HNN.out⟩
    case measure=>simp [intOf];omega
   ·have HR:=Lh (msD_no hlt he)
    rw [decide_eq_false he] at HF
    clear he
    generalize sg l k=M at*
    go_wp2_with fail
    refine (HF.out _ HSK.out).mono ?_
    rintro e w1 ⟨rfl,hb1⟩
    have HB1:=Lh (HB.out.trans (hb1.mono HB.out.size))
    clear hb1
    go_wp2
    go_ret
    exact ⟨k,rfl,by rw [HR.out];simp,HB1.out⟩
  ·have HR:=Lh (msD_iff.2 (fun j hj=>HN.out j (by omega)))
   go_wp2
   go_ret
   exact ⟨-1,rfl,by rw [HR.out];rfl,HB.out⟩
theorem mscontains_any (A:Option Addr) (n c:Nat) (l:List Sp) (q p m:Nat) (w:World) (hv:Pl w w.heap.size (.slice A n c) l) (hs:St2 w q p m) (hm:m<=1000) :
  Calls Tryz.prog 102 #[.slice A n c,.func (.func 103) #[] #[.pointer (some ⟨q,0,none⟩)]] w fun e w'=>e=.returned (.bool (!msD m l))/\Below w.heap.size w w':=by
 have HC:=Lh (msfunc_any A n c l q p m w hv hs hm)
 clear hv hs
 go_enter Tryz.func102,Tryz.ntmps102
 go_wp2_with fail
 refine HC.out.mono ?_
 rintro e w1 ⟨r,rfl,hr,hb1⟩
 have HR:=Lh hr
 have HB1:=Lh hb1
 clear hr hb1
 go_wp2
 go_ret
 exact ⟨by rw [<-HR.out];simp,HB1.out⟩
theorem drew_belR {W W' : World} (h:Below W.drew.heap.size W.drew W'):Below W.heap.size W W':=((Below.refl W.heap.size W).drew).trans h
theorem ssameshard_any (A:Option Addr) (n c:Nat) (l:List Sp) (w:World) (hv:Pl w w.heap.size (.slice A n c) l) :
  Calls Tryz.prog 104 #[.slice A n c] w fun e w'=>e=.returned (.bool (duB l))/\Below w.heap.size w w':=by
 obtain ⟨rfl,hm1,hm2⟩:=hv.len
 have hL:l.length<=9223372036854775807:=by unfold maxLen at hm2;omega
 have HV:=Lh hv
 have HB:=Lh (Below.refl w.heap.size w)
 clear hv hm2
 go_enter Tryz.func104,Tryz.ntmps104
 go_wp2
 go_loopw [7] (fun i wr=>∃ k:Nat,k<=l.length/\i=.int .i64 k/\Below w.heap.size w wr/\∀ j,j<k->ixS (l.take j) (sg l j).sh<0) (fun i _=>l.length - (intOf i).toNat)
 case atStart=>exact ⟨0,by omega,rfl,HB.out,fun j h=>absurd h (by omega)⟩
 case round=>
  obtain ⟨k,hk,rfl,hb,hno⟩:=hrel
  have HN:=Lh hno
  have HVK:=Lh (HV.out.below hb)
  have HB:=Lh hb
  clear hno hb
  by_cases hlt:k<l.length
  ·have hkc:k<=c:=by omega
   obtain ⟨b,o,rfl,hb,c0,c1,c2⟩:=HVK.out.atg hlt
   have HVA:=Lh (show Pl (wr.alloc (.cells #[.int .i64 (sg l k).lo,.int .i64 (sg l k).hi,.int .i64 (sg l k).sh] 113)).drew (wr.alloc (.cells #[.int .i64 (sg l k).lo,.int .i64 (sg l k).hi,.int .i64 (sg l k).sh] 113)).drew.heap.size (.slice (some ⟨b,o,none⟩) k c) (l.take k) from ((HVK.out.upto (Nat.le_of_lt hlt)).alloc HB.out.size _).more (show w.heap.size<=(wr.alloc (.cells #[.int .i64 (sg l k).lo,.int .i64 (sg l k).hi,.int .i64 (sg l k).sh] 113)).heap.size by have:=HB.out.size;simp;omega))
   have HBA:=Lh (HB.out.alloc HB.out.size (.cells #[.int .i64 (sg l k).lo,.int .i64 (sg l k).hi,.int .i64 (sg l k).sh] 113))
   have HFD:=Lh (fun w1 (h:Pl w1 w1.heap.size (.slice (some ⟨b,o,none⟩) k c) (l.take k))=>sfind_any _ _ _ _ (sg l k).sh w1 h)
   by_cases he:0<=ixS (l.take k) (sg l k).sh
   ·have HR:=Lh (duB_yes (du_take hlt he))
    generalize sg l k=M at*
    generalize ixS (l.take k) M.sh=r at*
    go_wp2
    go_region_with ((go_at_call 72;refine (HFD.out _ HVA.out).mono ?_;rintro e w1 ⟨rfl,hb1⟩;have HB1:=Lh (HBA.out.trans ((drew_belR hb1).mono HBA.out.size));clear hb1))
    all_goals
     go_wp2
     go_ret
     exact ⟨by rw [HR.out];rfl,HB1.out⟩
   ·have HNN:=Lh (show ∀ j,j<k+1->ixS (l.take j) (sg l j).sh<0 from fun j h=>by
     by_cases e:j=k
     ·rw [e];omega
     ·exact HN.out j (by omega))
    have hr1:=(ixS_neg he).1
    generalize sg l k=M at*
    rw [hr1] at HFD
    clear hr1 he
    go_wp2
    go_region_with ((go_at_call 72;refine (HFD.out _ HVA.out).mono ?_;rintro e w1 ⟨rfl,hb1⟩;have HB1:=Lh (HBA.out.trans ((drew_belR hb1).mono HBA.out.size));clear hb1))
    all_goals
     go_wp2
     go_roundw
     case rel=>exact ⟨k+1,by omega,by go_num,HB1.out,HNN.out⟩
     case measure=>simp [intOf];omega
  ·have HR:=Lh (duB_no (du_not (l:=l) (fun j hj=>by have:=HN.out j (by omega);omega)))
   go_wp2
   go_ret
   exact ⟨by rw [HR.out];rfl,HB.out⟩
theorem sfwvalid_any (d:Dd) (X:Dx) (s:Int) (w:World) (hd:DR w w.heap.size d X) (hs:slotP d.F.length s) (hn:d.F.length<=1000) :
  Calls Tryz.prog 105 #[dv d X,.int .i64 s] w fun e w'=>e=.returned (.bool (fvB d.l d.F s))/\Below w.heap.size w w':=by
 have H0:=Lh (DAt.start 34 hd)
 have HFD:=Lh (fun p W (k:DAt w p d X W)=>sfind_any X.A d.l.length X.c d.l s W k.dr.pl)
 have HST:=Lh (fun W=>slotTest_any d X W)
 have HS1:=Lh (fun p x W hp hc=>slot1_any x p X.A2 d.F.length X.c2 W hp hc hn)
 have HN:=Lh hn
 have HAT:=Lh (fun p W (k:DAt w p d X W) (j:Nat) (hj:j<d.F.length)=>k.dr.fl.atg hj)
 by_cases hh:hasS d.l s
 ·have HR:=Lh (show (ig d.F s.toNat == -1)=fvB d.l d.F s by unfold fvB;rw [if_pos hh,Bool.eq_iff_iff];simp)
  have hix:0<=ixS d.l s:=hh
  generalize ixS d.l s=r at*
  obtain ⟨j,rfl⟩:=Int.eq_ofNat_of_zero_le hs.1
  have hj:j<d.F.length:=by have:=hs.2;omega
  clear hd hs hh hn
  go_enter Tryz.func105,Tryz.ntmps105
  obtain ⟨⟨x0,x1,x2,xl⟩,-⟩:=H0.out.db.all
  go_wp2_with fail
  refine (HFD.out _ _ H0.out).mono ?_
  rintro e w1 ⟨rfl,hb⟩
  have H1:=Lh (H0.out.below hb)
  clear hb x0 x1 x2 xl
  obtain ⟨b,o,hA,hb',c0⟩:=HAT.out _ _ H1.out j hj
  obtain ⟨⟨x0,x1,x2,xl⟩,-⟩:=H1.out.db.all
  rw [hA] at x2
  clear hA
  go_wp2
  go_ret
  exact ⟨by rw [<-HR.out];rfl,H1.out.bel⟩
 ·have HR:=Lh (show pvD d.F d.F.length s=fvB d.l d.F s by unfold fvB;rw [if_neg hh])
  have hix:=(ixS_neg hh).1
  rw [hix] at HFD
  clear hix hh hn hd
  have HSS:=Lh hs
  have hL:d.F.length<=9223372036854775807:=by have:=HN.out;omega
  go_enter Tryz.func105,Tryz.ntmps105
  obtain ⟨⟨x0,x1,x2,xl⟩,-⟩:=H0.out.db.all
  go_wp2_with fail
  refine (HFD.out _ _ H0.out).mono ?_
  rintro e w1 ⟨rfl,hb⟩
  have H1:=Lh (H0.out.below hb)
  clear hb x0 x1 x2 xl
  obtain ⟨⟨x0,x1,x2,xl⟩,-⟩:=H1.out.db.all
  go_wp2_with fail
  refine (HST.out _).mono ?_
  rintro e w2 ⟨rfl,hw2⟩
  obtain ⟨p,hp⟩:∃ p,p=w.heap.size:=⟨_,rfl⟩
  obtain ⟨q,hq⟩:∃ q,q=w1.heap.size:=⟨_,rfl⟩
  have H2:=Lh (show DAt w p d X w2 from by rw [hp,hw2];exact H1.out.alloc _)
  have Q2:=Lh (show w2.cell? ⟨q,2,none⟩=some (.slice X.A2 d.F.length X.c2)/\q<w2.heap.size from by rw [hw2,hq];exact ⟨by simp [go_sem],by simp⟩)
  rw [<-hp,<-hq]
  clear hp hq hw2 x0 x1 x2 xl H0 H1 HFD HST hs
  obtain ⟨⟨x0,x1,x2,xl⟩,-⟩:=H2.out.db.all
  go_wp2
  go_loopw [1,22] (fun x i wr=>∃ (k:Nat) (t:Int),k<=d.F.length/\x=.int .i64 t/\i=.int .i64 k/\slotP d.F.length t/\pvD d.F (d.F.length - k) t=pvD d.F d.F.length s/\wr=w2) (fun _ i _=>d.F.length - (intOf i).toNat)
  case atStart=>exact ⟨0,s,by omega,rfl,rfl,HSS.out,by rw [Nat.sub_zero],rfl⟩
  case round=>
   obtain ⟨k,t,hk,rfl,rfl,ht,hpv,rfl⟩:=hrel
   have HT:=Lh ht
   have HPV:=Lh hpv
   clear hpv
   by_cases hlt:k<d.F.length
   ·obtain ⟨j,rfl⟩:=Int.eq_ofNat_of_zero_le ht.1
    have hj:j<d.F.length:=by have:=ht.2;omega
    obtain ⟨b,o,hA,hbl,c0⟩:=HAT.out _ _ H2.out j hj
    rw [hA] at x2
    clear hA
    have HPN:=Lh (show d.F.length - k=(d.F.length - (k+1))+1 by omega)
    rw [HPN.out] at HPV
    by_cases h1:ig d.F j = -1
    ·have HR1:=Lh (show fvB d.l d.F s=true by rw [<-HR.out,<-HPV.out];exact pvD_one h1)
     rw [h1] at c0
     clear h1 ht
     go_wp2
     go_ret
     exact ⟨by rw [HR1.out];rfl,H2.out.bel⟩
    ·have hne:(ig d.F j == -1)=false:=by simpa using h1
     by_cases h2:slotP d.F.length (ig d.F j)
     ·have HPV2:=Lh (show pvD d.F (d.F.length - (k+1)) (ig d.F j)=pvD d.F d.F.length s from (pvD_next h1 h2).symm.trans HPV.out)
      have HS2:=Lh (HS1.out q (ig d.F j) wr Q2.out.2 Q2.out.1)
      have H22:=Lh h2
      rw [decide_eq_true h2] at HS2
      clear h1 h2 ht
      generalize ig d.F j=y at*
      go_wp2_with fail
      refine HS2.out.mono ?_
      rintro e w3 ⟨rfl,hw3⟩
      replace hw3:=hw3.symm
      subst hw3
      go_wp2
      go_roundw
      case rel=>exact ⟨k+1,y,by omega,rfl,by go_num,H22.out,HPV2.out,by trivial⟩
      case measure=>simp [intOf];omega
     ·have HR1:=Lh (show fvB d.l d.F s=false by rw [<-HR.out,<-HPV.out];exact pvD_no h1 h2)
      have HS2:=Lh (HS1.out q (ig d.F j) wr Q2.out.2 Q2.out.1)
      rw [decide_eq_false h2] at HS2
      clear h1 h2 ht
      generalize ig d.F j=y at*
      go_wp2_with fail
      refine HS2.out.mono ?_
      rintro e w3 ⟨rfl,hw3⟩
      replace hw3:=hw3.symm
      subst hw3
      go_wp2
      go_ret
      exact ⟨by rw [HR1.out];rfl,H2.out.bel⟩
   ·have HR1:=Lh (show fvB d.l d.F s=false by rw [<-HR.out,<-HPV.out,show d.F.length - k=0 by omega];rfl)
    clear ht
    go_wp2
    go_ret
    exact ⟨by rw [HR1.out];rfl,H2.out.bel⟩
abbrev VlR (w:World) (x:Int) (e:Ending) (w' : World):Prop:=e=.returned (.int .i64 x)/\Below w.heap.size w w'
theorem rg_yes {d:Dd} (h:rgD d):wiR d.vn 1 1099511627776=true/\wiR (d.F.length:Int) 1 6=true:=⟨wiR_true h.1.1 h.1.2,wiR_true (by have:=h.2.1;omega) (by have:=h.2.2;omega)⟩
theorem rg_no {d:Dd} (h:¬rgD d) (h1:wiR d.vn 1 1099511627776=true):wiR (d.F.length:Int) 1 6=false:=by
 unfold wiR at*
 simp only [decide_eq_true_eq,decide_eq_false_iff_not] at*
 intro h2
 exact h ⟨h1,by omega,by omega⟩
theorem ddvalid_any (d:Dd) (X:Dx) (w:World) (hd:DR w w.heap.size d X) :
  Calls Tryz.prog 71 #[dv d X] w (VlR w (vaD d)):=by
 have H0:=Lh (DAt.start 34 hd)
 have HW1:=Lh (fun W=>rwithin_any d.vn 1 1099511627776 W)
 have HW2:=Lh (fun W=>rwithin_any (d.F.length:Int) 1 6 W)
 have HCV:=Lh (fun p W (k:DAt w p d X W)=>scovers_any X.A d.l.length X.c d.l W k.dr.pl)
 have HST:=Lh (fun W=>slotTest_any d X W)
 have HMS:=Lh (fun p q r W (k:DAt w p d X W) (hs:St2 W q r d.F.length) (hn:d.F.length<=1000)=>mscontains_any X.A d.l.length X.c d.l q r d.F.length W k.dr.pl hs hn)
 have HDU:=Lh (fun p W (k:DAt w p d X W)=>ssameshard_any X.A d.l.length X.c d.l W k.dr.pl)
 have HFV:=Lh (fun p W (k:DAt w p d X W) (j:Nat) (hj:j<d.F.length) (hn:d.F.length<=1000)=>sfwvalid_any d X (j:Int) W k.dr ⟨by omega,by omega⟩ hn)
 obtain ⟨p,hp⟩:∃ p,p=w.heap.size:=⟨_,rfl⟩
 obtain ⟨V,hV⟩:∃ V,V=vaD d:=⟨_,rfl⟩
 rw [<-hV]
 have HVV:=Lh hV
 have HPP:=Lh hp
 clear hd hV hp
 by_cases hr:rgD d
 ·obtain ⟨r1,r2⟩:=rg_yes hr
  rw [r1] at HW1
  rw [r2] at HW2
  clear r1 r2
  have hn6:d.F.length<=6:=hr.2.2
  have HN6:=Lh (show d.F.length<=1000 by omega)
  have hmf:∀ (fn:Fn) (first cap:Array Value) (w:World),(Instr.makeFunc fn first cap).run Tryz.prog w=.ok (.func fn first cap) w:=fun _ _ _ _=>rfl
  cases hc:cvD 0 d.l with
  | false=>
   have HR:=Lh (vaD_cv hr hc)
   rw [hc] at HCV
   clear hc hr HST HMS HDU HFV
   go_enter Tryz.func71,Tryz.ntmps71
   obtain ⟨⟨x0,x1,x2,xl⟩,-⟩:=H0.out.db.all
   go_wp2_with fail
   clear x0 x1 x2 xl
   have H0:=Lh (show DAt w p d X (w.alloc (.cells #[.int .i64 d.vn,.slice X.A d.l.length X.c,.slice X.A2 d.F.length X.c2] 34)) from by rw [HPP.out];exact H0.out)
   rw [<-HPP.out]
   generalize w.alloc (.cells #[.int .i64 d.vn,.slice X.A d.l.length X.c,.slice X.A2 d.F.length X.c2] 34)=w0 at*
   obtain ⟨⟨x0,x1,x2,xl⟩,-⟩:=H0.out.db.all
   refine (HW1.out _).mono ?_
   rintro e w1 ⟨rfl,hw⟩
   replace hw:=hw.symm
   subst hw
   go_wp2_with fail
   refine (HW2.out _).mono ?_
   rintro e w1 ⟨rfl,hw⟩
   replace hw:=hw.symm
   subst hw
   go_wp2_with fail
   refine (HCV.out _ _ H0.out).mono ?_
   rintro e w1 ⟨rfl,hb⟩
   have H1:=Lh (H0.out.below hb)
   clear hb
   go_wp2
   go_ret
   exact ⟨by rw [HVV.out,HR.out];rfl,H1.out.bel⟩
  | true=>
   rw [hc] at HCV
   go_enter Tryz.func71,Tryz.ntmps71
   obtain ⟨⟨x0,x1,x2,xl⟩,-⟩:=H0.out.db.all
   go_wp2_with fail
   clear x0 x1 x2 xl
   have H0:=Lh (show DAt w p d X (w.alloc (.cells #[.int .i64 d.vn,.slice X.A d.l.length X.c,.slice X.A2 d.F.length X.c2] 34)) from by rw [HPP.out];exact H0.out)
   rw [<-HPP.out]
   generalize w.alloc (.cells #[.int .i64 d.vn,.slice X.A d.l.length X.c,.slice X.A2 d.F.length X.c2] 34)=w0 at*
   obtain ⟨⟨x0,x1,x2,xl⟩,-⟩:=H0.out.db.all
   have HRG:=Lh hr
   have HCC:=Lh hc
   clear hr hc
   refine (HW1.out _).mono ?_
   rintro e w1 ⟨rfl,hw⟩
   replace hw:=hw.symm
   subst hw
   go_wp2_with fail
   refine (HW2.out _).mono ?_
   rintro e w1 ⟨rfl,hw⟩
   replace hw:=hw.symm
   subst hw
   go_wp2_with fail
   refine (HCV.out _ _ H0.out).mono ?_
   rintro e w1 ⟨rfl,hb⟩
   have H1:=Lh (H0.out.below hb)
   clear hb x0 x1 x2 xl H0 HCV HW1 HW2
   obtain ⟨⟨x0,x1,x2,xl⟩,-⟩:=H1.out.db.all
   go_wp2_with fail
   refine (HST.out _).mono ?_
   rintro e w2 ⟨rfl,hw2⟩
   obtain ⟨r,hr⟩:∃ r,r=w1.heap.size:=⟨_,rfl⟩
   have H2:=Lh (show DAt w p d X w2 from by rw [hw2];exact H1.out.alloc _)
   have R2:=Lh (show w2.cell? ⟨r,2,none⟩=some (.slice X.A2 d.F.length X.c2)/\r<w2.heap.size from by rw [hw2,hr];exact ⟨by simp [go_sem],by simp⟩)
   rw [<-hr]
   dsimp only [stV]
   clear hr hw2 x0 x1 x2 xl H1 HST
   have H3:=Lh (H2.out.alloc (.cells #[(.func (.func 128) #[] #[.pointer (some ⟨r,0,none⟩)])] 114))
   obtain ⟨q,hq⟩:∃ q,q=w2.heap.size:=⟨_,rfl⟩
   have S3:=Lh (show St2 (w2.alloc (.cells #[(.func (.func 128) #[] #[.pointer (some ⟨r,0,none⟩)])] 114)) q r d.F.length from ⟨by rw [hq];simp [go_sem],by rw [hq];simp,by have:=R2.out.2;simp;omega,X.A2,X.c2,by rw [World.cell?_alloc_lt _ _ _ R2.out.2];exact R2.out.1⟩)
   have HQ:=Lh hq
   clear hq
   obtain ⟨⟨x0,x1,x2,xl⟩,-⟩:=H2.out.db.all
   cases hms:msD d.F.length d.l with
   | false=>
    have HR:=Lh (vaD_ms HRG.out HCC.out hms)
    rw [hms] at HMS
    clear hms HDU HFV
    go_wp2_with fail
    rw [<-HQ.out]
    generalize w2.alloc (.cells #[(.func (.func 128) #[] #[.pointer (some ⟨r,0,none⟩)])] 114)=w3 at*
    refine (HMS.out _ _ _ _ H3.out S3.out HN6.out).mono ?_
    rintro e w4 ⟨rfl,hb⟩
    have H4:=Lh (H3.out.below hb)
    clear hb
    go_wp2
    go_ret
    exact ⟨by rw [HVV.out,HR.out];rfl,H4.out.bel⟩
   | true=>
    rw [hms] at HMS
    have HM:=Lh hms
    clear hms
    go_wp2_with fail
    rw [<-HQ.out]
    generalize w2.alloc (.cells #[(.func (.func 128) #[] #[.pointer (some ⟨r,0,none⟩)])] 114)=w3 at*
    refine (HMS.out _ _ _ _ H3.out S3.out HN6.out).mono ?_
    rintro e w4 ⟨rfl,hb⟩
    have H4:=Lh (H3.out.below hb)
    clear hb x0 x1 x2 xl H2 R2 H3 S3 HMS HQ
    obtain ⟨⟨x0,x1,x2,xl⟩,-⟩:=H4.out.db.all
    cases hdu:duB d.l with
    | true=>
     have HR:=Lh (vaD_du HRG.out HCC.out HM.out hdu)
     rw [hdu] at HDU
     clear hdu HFV
     go_wp2_with fail
     refine (HDU.out _ _ H4.out).mono ?_
     rintro e w5 ⟨rfl,hb⟩
     have H5:=Lh (H4.out.below hb)
     clear hb
     go_wp2
     go_ret
     exact ⟨by rw [HVV.out,HR.out];rfl,H5.out.bel⟩
    | false=>
     have HNO:=Lh (fun (i:Nat) (hi:i<d.F.length) h=>vaD_fo HRG.out HCC.out HM.out hdu (fv_no hi h))
     have HYES:=Lh (fun h=>vaD_ok HRG.out HCC.out HM.out hdu (fv_yes h))
     rw [hdu] at HDU
     clear hdu
     go_wp2_with fail
     refine (HDU.out _ _ H4.out).mono ?_
     rintro e w5 ⟨rfl,hb⟩
     have H5:=Lh (H4.out.below hb)
     clear hb x0 x1 x2 xl H4 HDU
     obtain ⟨⟨x0,x1,x2,xl⟩,-⟩:=H5.out.db.all
     go_wp2
     clear x0 x1 x2 xl
     go_loopw [32] (fun i wr=>∃ k:Nat,k<=d.F.length/\i=.int .i64 k/\Hid (DAt w p d X wr)/\∀ j:Nat,j<k->fvB d.l d.F (j:Int)=true) (fun i _=>d.F.length - (intOf i).toNat)
     case atStart=>exact ⟨0,by omega,rfl,H5,fun j h=>absurd h (by omega)⟩
     case round=>
      obtain ⟨k,hk,rfl,HD,hno⟩:=hrel
      have HN:=Lh hno
      clear hno H5
      obtain ⟨⟨x0,x1,x2,xl⟩,-⟩:=HD.out.db.all
      by_cases hlt:k<d.F.length
      ·have HF:=Lh (fun W h=>HFV.out p W h k hlt HN6.out)
       cases hf:fvB d.l d.F (k:Int) with
       | false=>
        have HR:=Lh (HNO.out k hlt hf)
        rw [hf] at HF
        clear hf
        go_wp2_with fail
        refine (HF.out _ HD.out).mono ?_
        rintro e w6 ⟨rfl,hb⟩
        have H6:=Lh (HD.out.below hb)
        clear hb
        go_wp2
        go_ret
        exact ⟨by rw [HVV.out,HR.out];rfl,H6.out.bel⟩
       | true=>
        have HNN:=Lh (show ∀ j:Nat,j<k+1->fvB d.l d.F (j:Int)=true from fun j h=>by
         by_cases e:j=k
         ·rw [e];exact hf
         ·exact HN.out j (by omega))
        rw [hf] at HF
        clear hf
        go_wp2_with fail
        refine (HF.out _ HD.out).mono ?_
        rintro e w6 ⟨rfl,hb⟩
        have H6:=Lh (HD.out.below hb)
        clear hb
        go_wp2
        go_roundw
        case rel=>exact ⟨k+1,by omega,by go_num,H6,HNN.out⟩
        case measure=>simp [intOf];omega
      ·have HR:=Lh (HYES.out (fun j hj=>HN.out j (by omega)))
       go_wp2
       go_ret
       exact ⟨by rw [HVV.out,HR.out];rfl,HD.out.bel⟩
 ·have HR:=Lh (vaD_1 hr)
  have HNO:=Lh (rg_no hr)
  clear hr HCV HST HMS HDU HFV
  cases h1:wiR d.vn 1 1099511627776 with
  | false=>
   rw [h1] at HW1
   clear h1 HNO
   go_enter Tryz.func71,Tryz.ntmps71
   obtain ⟨⟨x0,x1,x2,xl⟩,-⟩:=H0.out.db.all
   go_wp2_with fail
   clear x0 x1 x2 xl
   have H0:=Lh (show DAt w p d X (w.alloc (.cells #[.int .i64 d.vn,.slice X.A d.l.length X.c,.slice X.A2 d.F.length X.c2] 34)) from by rw [HPP.out];exact H0.out)
   rw [<-HPP.out]
   generalize w.alloc (.cells #[.int .i64 d.vn,.slice X.A d.l.length X.c,.slice X.A2 d.F.length X.c2] 34)=w0 at*
   obtain ⟨⟨x0,x1,x2,xl⟩,-⟩:=H0.out.db.all
   refine (HW1.out _).mono ?_
   rintro e w1 ⟨rfl,hw⟩
   replace hw:=hw.symm
   subst hw
   go_wp2
   go_ret
   exact ⟨by rw [HVV.out,HR.out];rfl,H0.out.bel⟩
  | true=>
   rw [HNO.out h1] at HW2
   rw [h1] at HW1
   clear h1 HNO
   go_enter Tryz.func71,Tryz.ntmps71
   obtain ⟨⟨x0,x1,x2,xl⟩,-⟩:=H0.out.db.all
   go_wp2_with fail
   clear x0 x1 x2 xl
   have H0:=Lh (show DAt w p d X (w.alloc (.cells #[.int .i64 d.vn,.slice X.A d.l.length X.c,.slice X.A2 d.F.length X.c2] 34)) from by rw [HPP.out];exact H0.out)
   rw [<-HPP.out]
   generalize w.alloc (.cells #[.int .i64 d.vn,.slice X.A d.l.length X.c,.slice X.A2 d.F.length X.c2] 34)=w0 at*
   obtain ⟨⟨x0,x1,x2,xl⟩,-⟩:=H0.out.db.all
   refine (HW1.out _).mono ?_
   rintro e w1 ⟨rfl,hw⟩
   replace hw:=hw.symm
   subst hw
   go_wp2_with fail
   refine (HW2.out _).mono ?_
   rintro e w1 ⟨rfl,hw⟩
   replace hw:=hw.symm
   subst hw
   go_wp2
   go_ret
   exact ⟨by rw [HVV.out,HR.out];rfl,H0.out.bel⟩
def SpP (w:World) (s:Sp) (b:Bool) (e:Ending) (w' : World):Prop:=e=.returned (.tuple #[s.v,.bool b])/\Below w.heap.size w w'
structure DS (w:World) (p q:Nat) (d:Dd) (X:Dx) (W:World):Prop where
 da:DAt w p d X W
 c0:W.cell? ⟨q,0,none⟩=some (.int .i64 0)
 c1:W.cell? ⟨q,1,none⟩=some (.int .i64 0)
 c2:W.cell? ⟨q,2,none⟩=some (.int .i64 0)
 fr:∀ o,W.frozen? ⟨q,o,none⟩=false
 lt:q<W.heap.size
 old:w.heap.size<=q
theorem DS.below {w W W' : World} {p q:Nat} {d:Dd} {X:Dx} (h:DS w p q d X W) (hb:Below W.heap.size W W'):DS w p q d X W':=
 ⟨h.da.below hb,(hb.cell (p:=⟨q,0,none⟩) h.lt).trans h.c0,(hb.cell (p:=⟨q,1,none⟩) h.lt).trans h.c1,(hb.cell (p:=⟨q,2,none⟩) h.lt).trans h.c2,fun o=>(hb.frozen (p:=⟨q,o,none⟩) h.lt).trans (h.fr o),Nat.lt_of_lt_of_le h.lt hb.size,h.old⟩
theorem DS.all {w W:World} {p q:Nat} {d:Dd} {X:Dx} (h:DS w p q d X W):(W.cell? ⟨q,0,none⟩=some (.int .i64 0)/\W.cell? ⟨q,1,none⟩=some (.int .i64 0)/\W.cell? ⟨q,2,none⟩=some (.int .i64 0)/\q<W.heap.size)/\W.frozen? ⟨q,0,none⟩=false/\W.frozen? ⟨q,1,none⟩=false/\W.frozen? ⟨q,2,none⟩=false:=⟨⟨h.c0,h.c1,h.c2,h.lt⟩,h.fr 0,h.fr 1,h.fr 2⟩
theorem DS.out {w W:World} {p q:Nat} {d:Dd} {X:Dx} (h:DS w p q d X W) (a b c:Value):Below w.heap.size w (((W.setCell ⟨q,0,none⟩ a).setCell ⟨q,1,none⟩ b).setCell ⟨q,2,none⟩ c):=
 ((h.da.bel.setCell (p:=⟨q,0,none⟩) h.old _).setCell (p:=⟨q,1,none⟩) h.old _).setCell (p:=⟨q,2,none⟩) h.old _
theorem DS.start {w:World} {d:Dd} {X:Dx} (t u:TypeId) (h:DR w w.heap.size d X):DS w w.heap.size (w.heap.size+1) d X ((w.alloc (.cells #[.int .i64 d.vn,.slice X.A d.l.length X.c,.slice X.A2 d.F.length X.c2] t)).alloc (.cells #[.int .i64 0,.int .i64 0,.int .i64 0] u)):=by
 refine ⟨(DAt.start t h).alloc _,by simp [go_sem],by simp [go_sem],by simp [go_sem],fun o=>by simp [go_sem],by simp,by omega⟩
theorem dspan_any (d:Dd) (X:Dx) (s:Int) (w:World) (hd:DR w w.heap.size d X) :
  Calls Tryz.prog 43 #[dv d X,.int .i64 s] w (SpP w (spnD d s) (spnB d s)):=by
 have H0:=Lh (DS.start 34 113 hd)
 have HVA:=Lh (fun p W (k:DAt w p d X W)=>ddvalid_any d X W k.dr)
 have HFD:=Lh (fun p W (k:DAt w p d X W)=>sfind_any X.A d.l.length X.c d.l s W k.dr.pl)
 have hL:d.l.length<=9223372036854775807:=by have h2:=hd.pl.len.2.2;have h1:=hd.pl.len.2.1;unfold maxLen at h2;omega
 obtain ⟨p,hp⟩:∃ p,p=w.heap.size:=⟨_,rfl⟩
 obtain ⟨q,hq⟩:∃ q,q=w.heap.size+1:=⟨_,rfl⟩
 obtain ⟨R,hR⟩:∃ R,R=spnD d s:=⟨_,rfl⟩
 obtain ⟨R2,hR2⟩:∃ R2,R2=spnB d s:=⟨_,rfl⟩
 rw [<-hR,<-hR2]
 have HRR:=Lh (And.intro hR hR2)
 have HPP:=Lh (show p=w.heap.size/\q=w.heap.size+1/\¬p=q/\¬q=p by omega)
 clear hd hR hR2 hp hq
 by_cases hv:vaD d=0
 ·rw [hv] at HVA
  go_enter Tryz.func43,Tryz.ntmps43
  have HV:=Lh hv
  clear hv
  obtain ⟨⟨x0,x1,x2,xl⟩,-⟩:=H0.out.da.db.all
  go_wp2_with fail
  clear x0 x1 x2 xl
  have H0:=Lh (show DS w p q d X ((w.alloc (.cells #[.int .i64 d.vn,.slice X.A d.l.length X.c,.slice X.A2 d.F.length X.c2] 34)).alloc (.cells #[.int .i64 0,.int .i64 0,.int .i64 0] 113)) from by rw [HPP.out.1,HPP.out.2.1];exact H0.out)
  rw [<-HPP.out.2.1,<-HPP.out.1]
  generalize (w.alloc (.cells #[.int .i64 d.vn,.slice X.A d.l.length X.c,.slice X.A2 d.F.length X.c2] 34)).alloc (.cells #[.int .i64 0,.int .i64 0,.int .i64 0] 113)=w0 at*
  refine (HVA.out _ _ H0.out.da).mono ?_
  rintro e w1 ⟨rfl,hb⟩
  have H1:=Lh (H0.out.below hb)
  clear hb H0 HVA
  obtain ⟨⟨x0,x1,x2,xl⟩,-⟩:=H1.out.da.db.all
  by_cases hi:0<=ixS d.l s
  ·obtain ⟨k,hk,hkl,-,-⟩:=ixS_pos hi
   have HRS:=Lh (show spnD d s=sg d.l k/\spnB d s=true from ⟨by unfold spnD;rw [if_pos ⟨HV.out,hi⟩,hk];rfl,by unfold spnB;exact decide_eq_true ⟨HV.out,hi⟩⟩)
   rw [hk] at HFD
   clear hi hk
   go_wp2_with fail
   refine (HFD.out _ _ H1.out.da).mono ?_
   rintro e w2 ⟨rfl,hb⟩
   have H2:=Lh (H1.out.below hb)
   clear hb H1 HFD x0 x1 x2 xl
   obtain ⟨b,o,hA,hbl,c0,c1,c2⟩:=H2.out.da.dr.pl.atg hkl
   obtain ⟨⟨x0,x1,x2,xl⟩,-⟩:=H2.out.da.db.all
   obtain ⟨⟨y0,y1,y2,yl⟩,f0,f1,f2⟩:=H2.out.all
   obtain ⟨-,-,hpq,hqp⟩:=HPP.out
   have HO:=Lh (H2.out.out (.int .i64 (sg d.l k).lo) (.int .i64 (sg d.l k).hi) (.int .i64 (sg d.l k).sh))
   rw [hA] at x1
   clear hA
   generalize sg d.l k=M at*
   go_wp2
   exact bodyPost_ret (v:=.tuple #[M.v,.bool true]) (by simp only [results,Tryz.results43];go_simp <;> rfl) rfl ⟨by rw [HRR.out.1,HRR.out.2,HRS.out.1,HRS.out.2],HO.out⟩
  ·have HRS:=Lh (show spnD d s=zSp/\spnB d s=false from ⟨by unfold spnD;rw [if_neg (fun h=>hi h.2)],by unfold spnB;exact decide_eq_false (fun h=>hi h.2)⟩)
   rw [(ixS_neg hi).1] at HFD
   clear hi
   go_wp2_with fail
   refine (HFD.out _ _ H1.out.da).mono ?_
   rintro e w2 ⟨rfl,hb⟩
   have H2:=Lh (H1.out.below hb)
   clear hb H1 HFD x0 x1 x2 xl
   obtain ⟨⟨y0,y1,y2,yl⟩,f0,f1,f2⟩:=H2.out.all
   have HO:=Lh (H2.out.out (.int .i64 0) (.int .i64 0) (.int .i64 0))
   go_wp2
   exact bodyPost_ret (v:=.tuple #[zSp.v,.bool false]) (by simp only [results,Tryz.results43];go_simp <;> rfl) rfl ⟨by rw [HRR.out.1,HRR.out.2,HRS.out.1,HRS.out.2],HO.out⟩
 ·have hne:(vaD d != 0)=true:=bne_iff_ne.2 hv
  have HRS:=Lh (show spnD d s=zSp/\spnB d s=false from ⟨by unfold spnD;rw [if_neg (fun h=>hv h.1)],by unfold spnB;exact decide_eq_false (fun h=>hv h.1)⟩)
  clear hv
  generalize vaD d=v at*
  go_enter Tryz.func43,Tryz.ntmps43
  obtain ⟨⟨x0,x1,x2,xl⟩,-⟩:=H0.out.da.db.all
  go_wp2_with fail
  clear x0 x1 x2 xl
  refine (HVA.out _ _ H0.out.da).mono ?_
  rintro e w1 ⟨rfl,hb⟩
  have H1:=Lh (H0.out.below hb)
  clear hb H0 HVA
  obtain ⟨⟨y0,y1,y2,yl⟩,f0,f1,f2⟩:=H1.out.all
  have HO:=Lh (H1.out.out (.int .i64 0) (.int .i64 0) (.int .i64 0))
  go_wp2
  exact bodyPost_ret (v:=.tuple #[zSp.v,.bool false]) (by simp only [results,Tryz.results43];go_simp <;> rfl) rfl ⟨by rw [HRR.out.1,HRR.out.2,HRS.out.1,HRS.out.2],HO.out⟩
theorem dnew_any (s l:Int) (w:World):Calls Tryz.prog 21 #[.int .i64 s,.int .i64 l] w (DE w.heap.size w (nwD s l) (nwE10 s l)):=by
 have HWI:=Lh (fun n lo hi W=>rwithin_any n lo hi W)
 obtain ⟨r,hr⟩:∃ r,r=w.heap.size:=⟨_,rfl⟩
 by_cases h:1<=s/\s<=6/\1<=l/\l<=s
 ·obtain ⟨n,hn⟩:∃ n:Nat,s=n:=⟨s.toNat,by omega⟩
  obtain ⟨m,hm⟩:∃ m:Nat,l=m:=⟨l.toNat,by omega⟩
  subst hn
  subst hm
  have e1:nwE10 n m=0:=by unfold nwE10;rw [if_pos h]
  have e2:nwD n m=⟨1,nwL m m,List.replicate n (-1)⟩:=by unfold nwD;rw [e1];simp
  have HM:=Lh (show (1<=n/\n<=6)/\(1<=m/\m<=n) by omega)
  have q1:wiR n 1 6=true:=by simp [wiR];omega
  have q2:wiR m 1 n=true:=by simp [wiR];omega
  rw [e1,e2]
  clear e1 e2 h
  obtain ⟨F,hF⟩:∃ F,F=List.replicate n (-1:Int):=⟨_,rfl⟩
  rw [<-hF]
  obtain ⟨i0,hi0,hz0⟩:=Option.map_eq_some_iff.1 info_sp
  simp only [Prod.mk.injEq] at hz0
  have HI:=Lh hi0
  have HZ:=Lh hz0
  clear hi0 hz0
  have HRP:=Lh (fun xb W=>repeat_one xb n W HM.out.1.1 HM.out.1.2)
  rw [<-hF] at HRP
  clear hF
  have HR0:=Lh hr
  go_enter Tryz.func21,Tryz.ntmps21
  go_wp2_with fail
  refine (HWI.out _ _ _ _).mono ?_
  rintro e w1 ⟨rfl,hw1⟩
  rw [q1]
  go_wp2_with fail
  refine (HWI.out _ _ _ _).mono ?_
  rintro e w2 ⟨rfl,hw2⟩
  rw [q2]
  go_wp2_with fail
  subst hw2
  have HW1:=Lh (show Db10 w1 r zD10 zDx/\w1.heap.size=r+1/\Below w.heap.size w w1 from by
   rw [<-hw1,hr]
   exact ⟨Db10.zero w _,by simp,(Below.refl _ _).alloc (nLR _) _⟩)
  rw [<-hr]
  clear hw1 hr
  refine (HRP.out _ _ (by simp [go_sem]) (by simp)).mono ?_
  rintro e w3 ⟨v,rfl,ho,hb⟩
  obtain ⟨A2,c2,rfl⟩:=own_form ho
  have HN:=Lh (NA.start (w:=w) HR0.out ((HW1.out.2.2.alloc HW1.out.2.2.size (.cells #[.int .i64 (-1)] 3)).trans (hb.mono (by have:=HW1.out.2.2.size;simp;omega))) ((HW1.out.1.alloc (.cells #[.int .i64 (-1)] 3)).up hb) (own_low ho (by have:=HW1.out.2.1;simp;omega)) 34)
  obtain ⟨y,hy⟩:∃ y,y=w3.heap.size:=⟨_,rfl⟩
  clear ho hb HRP HW1
  go_wp2_with fail
  rw [<-hy] at HN ⊢
  generalize w3.alloc (.cells #[.int .i64 1,.slice none 0 0,.slice A2 F.length c2] 34)=w4 at*
  clear hy
  go_loopw [23] (fun iv wr=>∃ (k:Nat) (A:Option Addr) (c:Nat),iv=.int .i64 k/\k<=m/\Hid (NA w r y ⟨1,nwL m k,F⟩ ⟨A,c,A2,c2⟩ wr)) (fun iv _=>m - (intOf iv).toNat)
  case atStart=>exact ⟨0,none,0,rfl,Nat.zero_le _,HN⟩
  case round=>
   obtain ⟨k,A,c,rfl,hkm,HA⟩:=hrel
   by_cases hk:k<m
   ·obtain ⟨L,hL⟩:∃ L,L=nwL m k:=⟨_,rfl⟩
    rw [<-hL] at HA
    have HL:=Lh (show L.length=k/\nwL m (k+1)=L++[⟨(k:Int)*65536 / m,((k:Int)+1)*65536 / m - 1,k⟩] from ⟨by rw [hL,nwL_len],by rw [hL];exact nwL_succ m k⟩)
    clear hL
    have hk' : (k:Int)<(m:Int):=by omega
    clear hkm hk
    have h56:k<=5/\m<=6:=by have:=HM.out;omega
    have HL6:=Lh h56
    have hw1:IntKind.i64.wrap ((k:Int)*65536)=(k:Int)*65536:=IntWalk.i64_in _ (by omega)
    have hw2:IntKind.i64.wrap ((k:Int)+1)=(k:Int)+1:=IntWalk.i64_in _ (by omega)
    have hw3:IntKind.i64.wrap (((k:Int)+1)*65536)=((k:Int)+1)*65536:=IntWalk.i64_in _ (by omega)
    obtain ⟨a,ha⟩:∃ a,a=((k:Int)*65536) / (m:Int):=⟨_,rfl⟩
    obtain ⟨b,hb⟩:∃ b,b=(((k:Int)+1)*65536) / (m:Int):=⟨_,rfl⟩
    have ht1:((k:Int)*65536).tdiv (m:Int)=a:=by rw [ha];exact Int.tdiv_eq_ediv_of_nonneg (by omega)
    have ht2:(((k:Int)+1)*65536).tdiv (m:Int)=b:=by rw [hb];exact Int.tdiv_eq_ediv_of_nonneg (by omega)
    have hra:0<=a/\a<=400000:=by
     rw [ha]
     exact ⟨Int.ediv_nonneg (by omega) (by omega),Int.le_trans (Int.ediv_le_self _ (by omega)) (by omega)⟩
    have hrb:0<=b/\b<=400000:=by
     rw [hb]
     exact ⟨Int.ediv_nonneg (by omega) (by omega),Int.le_trans (Int.ediv_le_self _ (by omega)) (by omega)⟩
    have hw4:IntKind.i64.wrap a=a:=IntWalk.i64_in _ (by omega)
    have hw5:IntKind.i64.wrap b=b:=IntWalk.i64_in _ (by omega)
    have hw6:IntKind.i64.wrap (b - 1)=b - 1:=IntWalk.i64_in _ (by omega)
    rw [<-ha,<-hb] at HL
    have hm0:¬(m:Int)=0:=by omega
    have hm1:((m:Int)==0)=false:=by simpa using hm0
    have hm2:¬m=0:=by omega
    have hm3:((m==0):Bool)=false:=by simpa using hm2
    clear ha hb h56
    obtain ⟨⟨x0,x1,x2,xl⟩,f0,f1,f2⟩:=HA.out.xb.all
    dsimp only at x0 x1 x2
    clear x0 x2 f0 f2
    go_wp2
    go_region_law (refine step_append_lies _ (by rfl) _ _ _ (by rfl) (r+1) 113 i0 _ 3 24 Tryz.underlying32 HI.out HZ.out.1 HZ.out.2.1 HZ.out.2.2 rfl (by omega) (.slice A L.length c) L.length (scs L) (by rfl) (HA.out.drew.alloc _).ol ⟨wr.heap.size,0,none⟩ 1 1 (Sp.mk a (b - 1) k).l (by rfl) (by rfl) (World.news_of_block (cs:=(Sp.mk a (b - 1) k).l.toArray) (t:=113) (fr:=(0,0)) (heap_alloc_new wr.drew _)) (Sp.l_one _) (by omega) (by have:=HL.out;have:=HL6.out;unfold maxLen;omega) (by have:=HL.out;have:=HL6.out;omega) (Nat.succ_le_of_lt (HA.out.drew.alloc _).rb.lt) _ rfl ?_;intro g1 cp1 w8 hown1 hgrow1 hat1 hlt1;have HP8:=Lh ((HA.out.drew.alloc _).app (S:=Sp.mk a (b - 1) k) hown1 hgrow1 hat1);obtain ⟨z1,f1,xl⟩:=HP8.out.1;clear hown1 hgrow1 hat1 hlt1)
    all_goals
     go_wp2
     exact ⟨⟨k+1,_,_,by rw [Int.natCast_add];rfl,by omega,Lh (by rw [HL.out.2];exact HP8.out.2)⟩,by simp [intOf];omega⟩
   ·have hke:k=m:=by omega
    subst hke
    have HO:=Lh HA.out.out
    obtain ⟨⟨x0,x1,x2,xl⟩,f0,f1,f2⟩:=HA.out.xb.all
    obtain ⟨⟨r0,r1,r2,rl⟩,g0,g1,g2⟩:=HA.out.rb.all
    have hry:¬r=y/\¬y=r:=by have:=HA.out.ne;omega
    obtain ⟨hry1,hry2⟩:=hry
    dsimp only at x0 x1 x2
    clear hkm hk
    go_wp2
    exact bodyPost_ret (v:=.tuple #[dv ⟨1,nwL k k,F⟩ ⟨A,c,A2,c2⟩,.int .i64 0]) (by simp only [results,Tryz.results21];go_simp <;> rfl) rfl HO.out
 ·have HEE:=Lh (show nwE10 s l=1/\nwD s l=zD10 from by
   have e1:nwE10 s l=1:=by unfold nwE10;rw [if_neg h]
   exact ⟨e1,by unfold nwD;rw [e1];rfl⟩)
  obtain ⟨E1,hE1⟩:∃ E1,E1=nwE10 s l:=⟨_,rfl⟩
  obtain ⟨D1,hD1⟩:∃ D1,D1=nwD s l:=⟨_,rfl⟩
  rw [<-hE1,<-hD1] at HEE
  rw [<-hE1,<-hD1]
  clear hE1 hD1
  have HO:=Lh (fun W hb=>new_out0 (w:=w) (W:=W) rfl hb 1)
  have hq:wiR s 1 6=false\/(wiR s 1 6=true/\wiR l 1 s=false):=by
   simp only [wiR,decide_eq_false_iff_not,decide_eq_true_eq];omega
  clear h hr
  rcases hq with q1 | ⟨q1,q2⟩
  ·go_enter Tryz.func21,Tryz.ntmps21
   go_wp2_with fail
   refine (HWI.out _ _ _ _).mono ?_
   rintro e w1 ⟨rfl,hw1⟩
   rw [q1]
   have HO1:=Lh (HO.out w1 (by rw [<-hw1];exact (Below.refl _ _).alloc (nLR _) _))
   have HD:=Lh (show Db10 w1 w.heap.size zD10 zDx from by rw [<-hw1];exact Db10.zero w _)
   clear hw1
   obtain ⟨⟨r0,r1,r2,rl⟩,g0,g1,g2⟩:=HD.out.all
   go_wp2
   exact bodyPost_ret (v:=.tuple #[.agg #[.int .i64 0,.slice none 0 0,.slice none 0 0],.int .i64 1]) (by simp only [results,Tryz.results21];go_simp <;> rfl) rfl (by rw [HEE.out.1,HEE.out.2];exact HO1.out)
  ·go_enter Tryz.func21,Tryz.ntmps21
   go_wp2_with fail
   refine (HWI.out _ _ _ _).mono ?_
   rintro e w1 ⟨rfl,hw1⟩
   rw [q1]
   go_wp2_with fail
   refine (HWI.out _ _ _ _).mono ?_
   rintro e w2 ⟨rfl,hw2⟩
   subst hw2
   rw [q2]
   have HO1:=Lh (HO.out w1 (by rw [<-hw1];exact (Below.refl _ _).alloc (nLR _) _))
   have HD:=Lh (show Db10 w1 w.heap.size zD10 zDx from by rw [<-hw1];exact Db10.zero w _)
   clear hw1
   obtain ⟨⟨r0,r1,r2,rl⟩,g0,g1,g2⟩:=HD.out.all
   go_wp2
   exact bodyPost_ret (v:=.tuple #[.agg #[.int .i64 0,.slice none 0 0,.slice none 0 0],.int .i64 1]) (by simp only [results,Tryz.results21];go_simp <;> rfl) rfl (by rw [HEE.out.1,HEE.out.2];exact HO1.out)
end Go.Proofs.YtkecnihgjepfeaaGreat
