/- What is proved here: shardqueueref06.SameLeases, Same of two lists, two tables that read alike are true; ref07.Same of two shards of one content is true; shardqueuelaw07.bad of two results of one content is false; Stm7; shardqueueref07.Ready, Leased, All by contracts. -/
import Derived.Test.YtncgbldcjfbknaaGreatJ34
namespace Go.Proofs.YtncgbldcjfbknaaGreat
open Go.RowKit
set_option linter.unusedVariables false
set_option maxHeartbeats 2000000 in
theorem rsamel_yes (A A' : Option Addr) (n n' c c' : Nat) (l:List Le) (w:World) (B B' : Nat) (hv:El w B (.slice A n c) l) (hv' : El w B' (.slice A' n' c') l) :
  Calls Tryz.prog 84 #[.slice A n c,.slice A' n' c'] w fun e w'=>e=.returned (.bool true)∧Below w.heap.size w w':=by
 obtain ⟨rfl,hm1,hm2⟩:=hv.len
 obtain ⟨rfl,hm1',hm2'⟩:=hv'.len
 have hL:l.length≤9223372036854775807:=by unfold maxLen at hm2;omega
 have HV:=Lh hv
 have HV':=Lh hv'
 have HB:=Lh (Below.refl w.heap.size w)
 clear hv hm1 hm2 hv' hm1' hm2'
 go_enter Tryz.func84,Tryz.ntmps84
 go_wp2
 go_loopw [5] (fun i wr=>∃ k:Nat,k≤l.length∧i=.int .i64 k∧El wr B (.slice A l.length c) l∧El wr B' (.slice A' l.length c') l∧Below w.heap.size w wr) (fun i _=>l.length - (intOf i).toNat)
 case atStart=>exact ⟨0,by omega,rfl,HV.out,HV'.out,HB.out⟩
 case round=>
  obtain ⟨k,hk,rfl,hv,hv',hb⟩:=hrel
  have HV:=Lh hv
  have HV':=Lh hv'
  have HB:=Lh hb
  clear hv hv' hb
  by_cases hlt:k<l.length
  ·obtain ⟨b,o,rfl,_⟩:=HV.out.some_ (by omega)
   obtain ⟨b',o',rfl,_⟩:=HV'.out.some_ (by omega)
   obtain ⟨⟨c0,c1,c2,c3,c4,c5,c6,c7⟩,hb⟩:=HV.out.c8 hlt
   obtain ⟨⟨d0,d1,d2,d3,d4,d5,d6,d7⟩,hb'⟩:=HV'.out.c8 hlt
   generalize l[k]=M at*
   have hne:=neql M
   go_wp2
   go_quiet (fail)
   go_wp2
   go_roundw
   case rel=>exact ⟨k+1,by omega,by go_num,HV.out.drewN _,HV'.out.drewN _,bel_drewN HB.out _⟩
   case measure=>simp [intOf];omega
  ·go_wp2
   go_ret
   exact ⟨rfl,HB.out⟩
set_option maxHeartbeats 2000000 in
theorem rtsame_yes (A A' : Option Addr) (n n' c c' : Nat) (l:List Le) (A2 A2' : Option Addr) (n2 n2' c2 c2' : Nat) (h:List Du) (w:World)
  (hv:El w w.heap.size (.slice A n c) l) (hv' : El w w.heap.size (.slice A' n' c') l) (hd:Dl w w.heap.size (.slice A2 n2 c2) h) (hd' : Dl w w.heap.size (.slice A2' n2' c2') h) :
  Calls Tryz.prog 179 #[tv A n c A2 n2 c2,tv A' n' c' A2' n2' c2'] w fun e w'=>e=.returned (.bool true)∧Below w.heap.size w w':=by
 have HB:=Lh (((Below.refl w.heap.size w).alloc (Nat.le_refl _) (.cells #[.slice A n c,.slice A2 n2 c2] 31)).alloc (by simp) (.cells #[.slice A' n' c',.slice A2' n2' c2'] 31))
 have HE:=Lh (fun W (hb:Below w.heap.size w W)=>rsamel_yes A A' n n' c c' l W _ _ (hv.below hb) (hv'.below hb))
 have HD:=Lh (fun W (hb:Below w.heap.size w W)=>rsame5_yes A2 A2' n2 n2' c2 c2' h W _ _ (hd.below hb) (hd'.below hb))
 have HT:=Lh ((TB.start w A n c A2 n2 c2 31).below ((Below.refl (w.heap.size+1) _).alloc (by simp) (.cells #[.slice A' n' c',.slice A2' n2' c2'] 31)) (Nat.lt_succ_self _))
 have HT':=Lh (TB.start (w.alloc (.cells #[.slice A n c,.slice A2 n2 c2] 31)) A' n' c' A2' n2' c2' 31)
 rw [show (w.alloc (.cells #[.slice A n c,.slice A2 n2 c2] 31)).heap.size=w.heap.size+1 by simp] at HT'
 clear hv hv' hd hd'
 go_enter Tryz.func179,Tryz.ntmps179
 go_wp2_with fail
 obtain ⟨p,hp⟩:∃ p,p=w.heap.size:=⟨_,rfl⟩
 obtain ⟨q,hq⟩:∃ q,q=w.heap.size+1:=⟨_,rfl⟩
 rw [←hq] at HT'
 rw [←hp] at HT
 rw [←hq,←hp]
 clear hq hp
 generalize (w.alloc (.cells #[.slice A n c,.slice A2 n2 c2] 31)).alloc (.cells #[.slice A' n' c',.slice A2' n2' c2'] 31)=w2 at*
 refine (HE.out _ HB.out).mono ?_
 rintro e w3 ⟨rfl,hb⟩
 obtain ⟨t0,t1,tl⟩:=HT.out.below hb HT.out.2.2
 obtain ⟨s0,s1,sl⟩:=HT'.out.below hb HT'.out.2.2
 have HB3:=Lh (HB.out.trans (hb.mono HB.out.size))
 clear hb
 go_wp2_with fail
 refine (HD.out _ HB3.out).mono ?_
 rintro e w4 ⟨rfl,hb⟩
 have HB4:=Lh (HB3.out.trans (hb.mono HB3.out.size))
 clear hb
 go_wp2
 go_ret
 exact ⟨rfl,HB4.out⟩
structure TwAt7 (w:World) (p q:Nat) (S:Sh) (D E:Sx) (W:World):Prop where
 a:SAt w p S D W
 b:SAt w q S E W
theorem TwAt7.below {w W W' : World} {p q:Nat} {S:Sh} {D E:Sx} (h:TwAt7 w p q S D E W) (hb:Below W.heap.size W W'):TwAt7 w p q S D E W':=⟨h.a.below hb,h.b.below hb⟩
theorem SAt.from7 {w w1:World} {p:Nat} {S:Sh} {D:Sx} {W:World} (h:SAt w1 p S D W) (hw:Below w.heap.size w w1):SAt w p S D W:=⟨h.s8,h.sr,h.off,hw.trans (h.bel.mono hw.size),Nat.le_trans hw.size h.old⟩
theorem TwAt7.start (w:World) (S:Sh) (D E:Sx) (hs:SR w w.heap.size S D) (ht:SR w w.heap.size S E):TwAt7 w w.heap.size (w.heap.size+1) S D E ((w.alloc (.cells #[.bool S.lv,.int .i64 S.lo,.int .i64 S.hi,.slice D.A S.cs.length D.c,.int .i64 S.hd,.int .i64 S.sz,.slice D.A2 S.l.length D.c2,.slice D.A3 S.h.length D.c3] 33)).alloc (.cells #[.bool S.lv,.int .i64 S.lo,.int .i64 S.hi,.slice E.A S.cs.length E.c,.int .i64 S.hd,.int .i64 S.sz,.slice E.A2 S.l.length E.c2,.slice E.A3 S.h.length E.c3] 33)):=by
 have hb:=(Below.refl w.heap.size w).alloc (Nat.le_refl _) (.cells #[.bool S.lv,.int .i64 S.lo,.int .i64 S.hi,.slice D.A S.cs.length D.c,.int .i64 S.hd,.int .i64 S.sz,.slice D.A2 S.l.length D.c2,.slice D.A3 S.h.length D.c3] 33)
 have h1:=SAt.from7 (SAt.start 33 (ht.up hb)) hb
 rw [show (w.alloc (.cells #[.bool S.lv,.int .i64 S.lo,.int .i64 S.hi,.slice D.A S.cs.length D.c,.int .i64 S.hd,.int .i64 S.sz,.slice D.A2 S.l.length D.c2,.slice D.A3 S.h.length D.c3] 33)).heap.size=w.heap.size+1 by simp] at h1
 exact ⟨(SAt.start 33 hs).alloc _,h1⟩
set_option maxHeartbeats 4000000 in
set_option maxRecDepth 20000 in
theorem rsame7_yes (S:Sh) (D E:Sx) (w:World) (hs:SR w w.heap.size S D) (ht:SR w w.heap.size S E) :
  Calls Tryz.prog 132 #[sv S D,sv S E] w fun e w'=>e=.returned (.bool true)∧Below w.heap.size w w':=by
 have H0:=Lh (TwAt7.start w S D E hs ht)
 have HG:=Lh (fun p q W (h:TwAt7 w p q S D E W)=>gsame_yes D.A E.A S.cs.length S.cs.length D.c E.c S.hd S.sz S.cs W W.heap.size W.heap.size (Nat.le_refl _) (Nat.le_refl _) h.a.sr.ls h.b.sr.ls)
 have HT:=Lh (fun p q W (h:TwAt7 w p q S D E W)=>rtsame_yes D.A2 E.A2 S.l.length S.l.length D.c2 E.c2 S.l D.A3 E.A3 S.h.length S.h.length D.c3 E.c3 S.h W h.a.sr.el h.b.sr.el h.a.sr.dl h.b.sr.dl)
 clear hs ht
 go_enter Tryz.func132,Tryz.ntmps132
 go_wp2_with fail
 obtain ⟨p,hp⟩:∃ p,p=w.heap.size:=⟨_,rfl⟩
 obtain ⟨q,hq⟩:∃ q,q=w.heap.size+1:=⟨_,rfl⟩
 rw [←hq,←hp] at H0
 rw [←hq,←hp]
 clear hq hp
 generalize (w.alloc (.cells #[.bool S.lv,.int .i64 S.lo,.int .i64 S.hi,.slice D.A S.cs.length D.c,.int .i64 S.hd,.int .i64 S.sz,.slice D.A2 S.l.length D.c2,.slice D.A3 S.h.length D.c3] 33)).alloc (.cells #[.bool S.lv,.int .i64 S.lo,.int .i64 S.hi,.slice E.A S.cs.length E.c,.int .i64 S.hd,.int .i64 S.sz,.slice E.A2 S.l.length E.c2,.slice E.A3 S.h.length E.c3] 33)=w2 at*
 refine (HG.out _ _ _ H0.out).mono ?_
 rintro e w3 ⟨rfl,hb⟩
 have H1:=Lh (H0.out.below hb)
 clear hb
 obtain ⟨t0,t1,t2,t3,t4,t5,t6,t7,tl⟩:=H1.out.a.s8.facts
 obtain ⟨y0,y1,y2,y3,y4,y5,y6,y7,yl⟩:=H1.out.b.s8.facts
 go_wp2_with fail
 clear t0 t1 t2 t3 t4 t5 t6 t7 tl y0 y1 y2 y3 y4 y5 y6 y7 yl
 refine (HT.out _ _ _ H1.out).mono ?_
 rintro e w4 ⟨rfl,hb⟩
 have HB:=Lh (H1.out.below hb).a.bel
 clear hb
 go_wp2
 go_ret
 exact ⟨rfl,HB.out⟩
set_option maxHeartbeats 4000000 in
set_option maxRecDepth 20000 in
theorem bad7_no (S:Sh) (D E:Sx) (x:Int) (w:World) (hs:SR w w.heap.size S D) (ht:SR w w.heap.size S E) :
  Calls Tryz.prog 82 #[sv S D,.int .i64 x,sv S E,.int .i64 x] w fun e w'=>e=.returned (.bool false)∧Below w.heap.size w w':=by
 have H0:=Lh (TwAt7.start w S D E hs ht)
 have HS:=Lh (fun p q W (h:TwAt7 w p q S D E W)=>rsame7_yes S D E W h.a.sr h.b.sr)
 have hx:(x != x)=false:=by simp
 clear hs ht
 go_enter Tryz.func82,Tryz.ntmps82
 obtain ⟨t0,t1,t2,t3,t4,t5,t6,t7,tl⟩:=H0.out.a.s8.facts
 obtain ⟨y0,y1,y2,y3,y4,y5,y6,y7,yl⟩:=H0.out.b.s8.facts
 go_wp2_with fail
 clear t0 t1 t2 t3 t4 t5 t6 t7 tl y0 y1 y2 y3 y4 y5 y6 y7 yl
 refine (HS.out _ _ _ H0.out).mono ?_
 rintro e w3 ⟨rfl,hb⟩
 have HB:=Lh (H0.out.below hb).a.bel
 clear hb
 go_wp2
 go_ret
 exact ⟨rfl,HB.out⟩
end Go.Proofs.YtncgbldcjfbknaaGreat
/- Plain: what Take's loop of the reference makes of a shard, message for message. -/
namespace Go.Proofs.YtncgbldcjfbknaaGreat
open Go.RowKit
set_option linter.unusedVariables false
theorem grs_ring (dl:Int) (R:List Msg):∀ (T:List Msg) (V:Vs),(V.ring R).grs dl T=(V.grs dl T).ring R
 | [],V=>rfl
 | M::T,V=>grs_ring dl R T (V.gr ⟨dlM M,dl⟩)
theorem grs_same (dl:Int):∀ (T:List Msg) (V:Vs),(V.grs dl T).lo=V.lo∧(V.grs dl T).hi=V.hi∧(V.grs dl T).n=V.n∧(V.grs dl T).hd=V.hd
 | [],V=>⟨rfl,rfl,rfl,rfl⟩
 | M::T,V=>grs_same dl T (V.gr ⟨dlM M,dl⟩)
theorem grs_one (dl:Int) (T:List Msg) (M:Msg) (V:Vs):V.grs dl (T++[M])=(V.grs dl T).gr ⟨dlM M,dl⟩:=by unfold Vs.grs;rw [List.foldl_append];rfl
noncomputable def tkS (V:Vs) (mx:Nat) (f:Msg→Bool) (dl:Int) (i:Nat):Sh:=((V.grs dl (pk mx f (V.L.take i)).1).ring (pkL mx f V.L i)).sh
section
variable {V:Vs} {mx:Nat} {f:Msg→Bool} {dl:Int} {i:Nat}
theorem tk_zero:tkS V mx f dl 0=V.sh:=by unfold tkS;rw [pkL_zero];rfl
theorem tk_no (hi:i<V.L.length) (h:¬((pk mx f (V.L.take i)).1.length<mx∧f V.L[i]=true)):tkS V mx f dl (i+1)=tkS V mx f dl i:=by unfold tkS;rw [pk_no hi h,pkL_no hi h]
theorem tk_yes (k:V.Ok) (hi:i<V.L.length) (h1:(pk mx f (V.L.take i)).1.length<mx) (h2:f V.L[i]=true) {S S' : Sh} (hS:S=tkS V mx f dl i) (hS' : S' = tkS V mx f dl (i+1)) :
  S' = ⟨S.lv,S.lo,S.hi,rmC S.cs S.hd S.sz V.L[i].id,ifE (rmE S.cs S.hd S.sz V.L[i].id) S.hd,ifE (rmE S.cs S.hd S.sz V.L[i].id) (S.sz - 1),grL S.l S.h ⟨dlM V.L[i],dl⟩,grH S.l S.h ⟨dlM V.L[i],dl⟩⟩:=by
 subst hS hS'
 have h:=pull_rm (mx:=mx) (f:=f) (i:=i) k hi h1 h2 rfl rfl
 obtain ⟨g1,g2,g3,g4⟩:=grs_same dl (pk mx f (V.L.take i)).1 V
 unfold tkS
 rw [pk_yes hi h1 h2,grs_one]
 simp only [Vs.sh,Vs.ring,Vs.gr,Sh.mk.injEq] at h ⊢
 obtain ⟨-,-,-,e1,e2,e3,-,-⟩:=h
 simp only [g3,g4]
 exact ⟨trivial,trivial,trivial,e1,e2,e3,trivial,trivial⟩
theorem tk_end (h:V.L.length≤i∨mx≤(pk mx f (V.L.take i)).1.length):tkS V mx f dl i=(V.take mx f dl).sh∧(pk mx f (V.L.take i)).1=(pk mx f V.L).1:=by
 have e:pk mx f V.L=((pk mx f (V.L.take i)).1,pkL mx f V.L i):=by
  rcases h with h | h
  ·unfold pkL;rw [List.take_of_length_le h,List.drop_eq_nil_of_le h,List.append_nil]
  ·conv=>lhs;rw [←List.take_append_drop i V.L]
   rw [pk_full h];rfl
 refine ⟨?_,by rw [e]⟩
 unfold tkS Vs.take
 rw [e,grs_ring]
end
end Go.Proofs.YtncgbldcjfbknaaGreat
namespace Go.Proofs.YtncgbldcjfbknaaGreat
open Go.RowKit
set_option linter.unusedVariables false
def LsR (l:List Msg) (w:World) (e:Ending) (w' : World):Prop:=∃ A c,e=.returned (.slice A l.length c)∧Ls w' w'.heap.size (.slice A l.length c) l∧Below w.heap.size w w'
theorem Ls.upz {W W' : World} {L:List Msg} {v:Value} (h:Ls W W.heap.size v L) (hb:Below W.heap.size W W'):Ls W' W'.heap.size v L:=(h.below hb).more hb.size
set_option maxHeartbeats 2000000 in
theorem rready_any (S:Sh) (D:Sx) (w:World) (hs:SR w w.heap.size S D) :
  Calls Tryz.prog 68 #[sv S D] w (LsR (lsF S.cs S.hd S.sz) w):=by
 have H0:=Lh (SAt.start 33 hs)
 have HG:=Lh (fun p W (k:SAt w p S D W)=>rlist_any D.A S.cs.length D.c S.cs S.hd S.sz W k.sr.ls)
 clear hs
 generalize lsF S.cs S.hd S.sz=L at*
 go_enter Tryz.func68,Tryz.ntmps68
 obtain ⟨t0,t1,t2,t3,t4,t5,t6,t7,tl⟩:=H0.out.s8.facts
 go_wp2_with fail
 clear t0 t1 t2 t3 t4 t5 t6 t7 tl
 refine (HG.out _ _ H0.out).mono ?_
 rintro e w2 ⟨v,rfl,hn,hl,hb⟩
 obtain ⟨A,c,rfl,_,_⟩:=hl.form
 have HL:=Lh hl
 have HB:=Lh (H0.out.below hb).bel
 clear hn hl hb
 go_wp2
 go_ret
 exact ⟨A,c,rfl,HL.out,HB.out⟩
theorem map_m_succ {l:List Le} {k:Nat} (h:k<l.length):(l.take (k+1)).map Le.m=(l.take k).map Le.m++[l[k].m]:=by
 rw [←List.take_append_getElem h,List.map_append]
 rfl
set_option maxHeartbeats 4000000 in
set_option maxRecDepth 20000 in
theorem rleased_any (S:Sh) (D:Sx) (w:World) (hs:SR w w.heap.size S D) (h12:S.l.length≤1000) :
  Calls Tryz.prog 69 #[sv S D] w (LsR (S.l.map Le.m) w):=by
 obtain ⟨i0,hi0,hz0⟩:=Option.map_eq_some_iff.1 info_msg
 simp only [Prod.mk.injEq] at hz0
 have HI:=Lh hi0
 have HZ:=Lh hz0
 have H0:=Lh (SAt.start 33 hs)
 have HE:=Lh (show S.l.map Le.m=(S.l.take S.l.length).map Le.m by rw [List.take_length])
 have hL:S.l.length≤9223372036854775807:=by omega
 have HLN:=Lh h12
 have HRS:=Lh hs
 clear hs hi0 hz0 h12
 go_enter Tryz.func69,Tryz.ntmps69
 go_wp2
 obtain ⟨p,hp⟩:∃ p,p=w.heap.size:=⟨_,rfl⟩
 rw [←hp] at H0
 rw [←hp]
 clear hp
 generalize w.alloc (.cells #[.bool S.lv,.int .i64 S.lo,.int .i64 S.hi,.slice D.A S.cs.length D.c,.int .i64 S.hd,.int .i64 S.sz,.slice D.A2 S.l.length D.c2,.slice D.A3 S.h.length D.c3] 33)=w1 at*
 go_loopw [3,4] (fun lv i wr=>∃ k:Nat,k≤S.l.length∧i=.int .i64 k∧SAt w p S D wr∧w1.heap.size≤wr.heap.size∧wr.ownsRow w1.heap.size 56 7 lv ((S.l.take k).map Le.m).length (lcs ((S.l.take k).map Le.m))) (fun _ i _=>S.l.length - (intOf i).toNat)
 case atStart=>exact ⟨0,Nat.zero_le _,rfl,H0.out,Nat.le_refl _,World.ownsRow_nil _ _ _ _⟩
 case round=>
  obtain ⟨k,hk,rfl,hsa,hsz,how⟩:=hrel
  have HS:=Lh hsa
  have HZZ:=Lh hsz
  have HO:=Lh how
  clear hsa hsz how
  obtain ⟨A5,c5,rfl⟩:=own_form HO.out
  by_cases hlt:k<S.l.length
  ·have HMS:=Lh (map_m_succ hlt)
   have HKL:=Lh (show ((S.l.take k).map Le.m).length≤1000 by rw [List.length_map,List.length_take];have:=HLN.out;omega)
   obtain ⟨b,o,hA2,hbl,hc⟩:=HS.out.sr.el.at_ hlt
   obtain ⟨x0,x1,x2,x3,x4,x5,x6,x7⟩:=hc
   generalize ((S.l.take k).map Le.m)=T at*
   generalize S.l[k]=X at*
   have HOA:=Lh (HO.out.alloc (.cells #[.int .i64 X.m.id,.int .i64 X.m.rt,.int .i64 X.m.ep,.int .i64 X.m.ct,.int .i64 X.m.gn,.int .i64 X.m.st,.string X.m.bd] 56))
   have HSA:=Lh (HS.out.alloc (.cells #[.int .i64 X.m.id,.int .i64 X.m.rt,.int .i64 X.m.ep,.int .i64 X.m.ct,.int .i64 X.m.gn,.int .i64 X.m.st,.string X.m.bd] 56))
   have HCX:=Lh (msg_row wr X.m 56)
   have HPW:=Lh (show p<w1.heap.size from H0.out.lt)
   obtain ⟨t0,t1,t2,t3,t4,t5,t6,t7,tl⟩:=HS.out.s8.facts
   rw [hA2] at t6
   go_wp2_with (at_builtin;refine wpList_append_lies _ rfl (.tmp 13) (.tmp 21) 25 rfl w1.heap.size 56 i0 _ 7 64 Tryz.underlying25 HI.out HZ.out.1 HZ.out.2.1 HZ.out.2.2 rfl (by omega) (.slice A5 T.length c5) T.length (lcs T) rfl HOA.out ⟨wr.heap.size,0,none⟩ 1 1 X.m.l rfl (by simp [Msg.l_len]) (fun j u hu=>by have:=HCX.out j u hu;simpa using this) X.m.l_one (by omega) (by have:=HKL.out;unfold maxLen;omega) (by have:=HKL.out;omega) (by have:=HZZ.out;simp;omega) _ rfl ?_;intro g cp w8 hown hgrow hat hglt)
   have HO8:=Lh (own_end hown)
   have HS8:=Lh (HSA.out.grown hgrow (fun q e=>⟨HRS.out.offs (by have h1:=(HOA.out.lt q e).1;have h2:=HPW.out;have h3:=HS.out.old;omega),by have:=(HOA.out.lt q e).1;have:=HPW.out;omega⟩))
   have HZ8:=Lh (show w1.heap.size≤w8.heap.size by have:=hgrow.size;simp at this;have:=HZZ.out;omega)
   clear hown hgrow hat hglt x0 x1 x2 x3 x4 x5 x6 x7 t0 t1 t2 t3 t4 t5 t6 t7 tl
   go_wp2
   go_roundw
   case rel=>exact ⟨k+1,by omega,by go_num,HS8.out,HZ8.out,by rw [HMS.out];exact HO8.out⟩
   case measure=>simp [intOf];omega
  ·obtain rfl:k=S.l.length:=by omega
   obtain ⟨t0,t1,t2,t3,t4,t5,t6,t7,tl⟩:=HS.out.s8.facts
   go_wp2
   go_ret
   exact ⟨A5,c5,by rw [HE.out];rfl,by rw [HE.out];exact Ls.of_own HO.out,HS.out.bel⟩
structure AlAt (w:World) (p B:Nat) (S:Sh) (D:Sx) (L T:List Msg) (r4 r5 r7:Option Value) (W:World):Prop where
 sa:SAt w p S D W
 f4:∀ v,r4=some v→Ls W W.heap.size v L
 f5:∀ v,r5=some v→W.ownsRow B 56 7 v L.length (lcs L)
 f7:∀ v,r7=some v→Ls W W.heap.size v T
 z:W.ownsRow B 56 7 (.slice none 0 0) 0 []
 pb:p<B∧B≤W.heap.size
 off:∀ q,B≤q→SOff S D q
section
variable {w W W' : World} {p B:Nat} {S:Sh} {D:Sx} {L T:List Msg} {r4 r5 r7:Option Value} {v:Value}
theorem AlAt.below (h:AlAt w p B S D L T r4 r5 r7 W) (hb:Below W.heap.size W W'):AlAt w p B S D L T r4 r5 r7 W':=
 ⟨h.sa.below hb,fun v e=>(h.f4 v e).upz hb,fun v e=>own_below (h.f5 v e) hb,fun v e=>(h.f7 v e).upz hb,World.ownsRow_nil _ _ _ _,⟨h.pb.1,Nat.le_trans h.pb.2 hb.size⟩,h.off⟩
theorem AlAt.drew (h:AlAt w p B S D L T r4 r5 r7 W):AlAt w p B S D L T r4 r5 r7 W.drew:=h.below (Below.refl _ _).drew
theorem AlAt.a4 (h:AlAt w p B S D L T r4 r5 r7 W) (hb:Below W.heap.size W W') (hl:Ls W' W'.heap.size v L):AlAt w p B S D L T (some v) r5 r7 W':=
 ⟨(h.below hb).sa,fun u e=>by injection e with e;subst e;exact hl,(h.below hb).f5,(h.below hb).f7,World.ownsRow_nil _ _ _ _,(h.below hb).pb,h.off⟩
theorem AlAt.a7 (h:AlAt w p B S D L T r4 r5 r7 W) (hb:Below W.heap.size W W') (hl:Ls W' W'.heap.size v T):AlAt w p B S D L T r4 r5 (some v) W':=
 ⟨(h.below hb).sa,(h.below hb).f4,(h.below hb).f5,fun u e=>by injection e with e;subst e;exact hl,World.ownsRow_nil _ _ _ _,(h.below hb).pb,h.off⟩
theorem AlAt.a5 (h:AlAt w p B S D L T r4 none r7 W) (ho:W'.ownsRow B 56 7 v (0+L.length) ([]++lcs L)) (hg:W.grownBy W' (Value.ownBlock (.slice none 0 0))):AlAt w p B S D L T r4 (some v) r7 W':=by
 have hb:Below W.heap.size W W':=((Below.refl _ _).grown hg (Nat.le_refl _) (fun x e=>by simp [Value.ownBlock] at e))
 have:=h.below hb
 refine ⟨this.sa,this.f4,fun u e=>by injection e with e;subst e;simpa using ho,this.f7,this.z,this.pb,h.off⟩
theorem AlAt.a8 (h:AlAt w p B S D L T r4 (some v) r7 W) {u:Value} (ho:W'.ownsRow B 56 7 u (L.length+T.length) (lcs L++lcs T)) (hg:W.grownBy W' v.ownBlock):∃ A c,u=.slice A (L++T).length c∧Ls W' W'.heap.size (.slice A (L++T).length c) (L++T)∧Below w.heap.size w W':=by
 obtain ⟨A,c,rfl⟩:=own_form ho
 have e:L.length+T.length=(L++T).length:=by simp
 rw [e,←lcs_app] at ho
 refine ⟨A,c,by rw [e],Ls.of_own ho,h.sa.bel.grown hg h.sa.bel.size (fun x e=>?_)⟩
 have h1:=((h.f5 v rfl).lt x e).1
 have h2:=h.pb.1
 have h3:=h.sa.old
 omega
end
set_option maxHeartbeats 4000000 in
set_option maxRecDepth 20000 in
theorem rall_any (S:Sh) (D:Sx) (w:World) (hs:SR w w.heap.size S D) (h11:(lsF S.cs S.hd S.sz).length≤1000) (h12:S.l.length≤1000) :
  Calls Tryz.prog 27 #[sv S D] w (LsR S.al w):=by
 obtain ⟨i0,hi0,hz0⟩:=Option.map_eq_some_iff.1 info_msg
 simp only [Prod.mk.injEq] at hz0
 have HI:=Lh hi0
 have HZ:=Lh hz0
 have HRY:=Lh (fun W (k:SR W W.heap.size S D)=>rready_any S D W k)
 have HLD:=Lh (fun W (k:SR W W.heap.size S D)=>rleased_any S D W k h12)
 have HLT:=Lh (show (S.l.map Le.m).length≤1000 by rw [List.length_map];exact h12)
 unfold Sh.al
 generalize lsF S.cs S.hd S.sz=L at*
 generalize S.l.map Le.m=T at*
 have HLL:=Lh h11
 have H0:=Lh (show AlAt w w.heap.size (w.heap.size+1) S D L T none none none _ from ⟨SAt.start 33 hs,fun v e=>(by cases e),fun v e=>(by cases e),fun v e=>(by cases e),World.ownsRow_nil _ _ _ _,⟨Nat.lt_succ_self _,by simp⟩,fun q hq=>hs.offs (by omega)⟩)
 clear hs hi0 hz0 h11 h12
 go_enter Tryz.func27,Tryz.ntmps27
 go_wp2_with fail
 obtain ⟨p,hp⟩:∃ p,p=w.heap.size:=⟨_,rfl⟩
 rw [←hp] at H0
 rw [←hp]
 obtain ⟨B,hB⟩:∃ B,B=p+1:=⟨_,rfl⟩
 rw [←hB] at H0
 clear hp hB
 have HP:=Lh H0.out.drew
 obtain ⟨t0,t1,t2,t3,t4,t5,t6,t7,tl⟩:=H0.out.sa.s8.facts
 go_region_law (first
  | (go_simp;go_at_call 68;(with_reducible refine (HRY.out _ HP.out.sa.sr).mono ?_);rintro e w4 ⟨A4,c4,rfl,hl,hb⟩;have HP:=Lh (HP.out.a4 hb hl);clear t0 t1 t2 t3 t4 t5 t6 t7 tl hl hb;obtain ⟨t0,t1,t2,t3,t4,t5,t6,t7,tl⟩:=HP.out.sa.s8.facts)
  | (go_simp;go_at_call 69;(with_reducible refine (HLD.out _ HP.out.sa.sr).mono ?_);rintro e w7 ⟨A7,c7,rfl,hl,hb⟩;have HP:=Lh (HP.out.a7 hb hl);clear t0 t1 t2 t3 t4 t5 t6 t7 tl hl hb;obtain ⟨t0,t1,t2,t3,t4,t5,t6,t7,tl⟩:=HP.out.sa.s8.facts)
  | (refine step_append_rd _ (by rfl) _ _ _ (by rfl) B 56 i0 _ 7 64 Tryz.underlying25 HI.out HZ.out.1 HZ.out.2.1 HZ.out.2.2 rfl (by omega) (.slice none 0 0) 0 [] (by rfl) HP.out.z _ A4 L.length c4 (lcs L) (by rfl) (HP.out.f4 _ rfl).rd (lcs_one L) (by have:=HLL.out;unfold maxLen;omega) (by have:=HLL.out;omega) HP.out.pb.2 ?_;intro v5 w5 ho hg _;have HP:=Lh (HP.out.a5 ho hg);clear t0 t1 t2 t3 t4 t5 t6 t7 tl ho hg;obtain ⟨t0,t1,t2,t3,t4,t5,t6,t7,tl⟩:=HP.out.sa.s8.facts)
  | (refine step_append_rd _ (by rfl) _ _ _ (by rfl) B 56 i0 _ 7 64 Tryz.underlying25 HI.out HZ.out.1 HZ.out.2.1 HZ.out.2.2 rfl (by omega) v5 L.length (lcs L) (by rfl) (HP.out.f5 _ rfl) _ A7 T.length c7 (lcs T) (by rfl) (HP.out.f7 _ rfl).rd (lcs_one T) (by have:=HLL.out;have:=HLT.out;unfold maxLen;omega) (by have:=HLL.out;have:=HLT.out;omega) HP.out.pb.2 ?_;intro v8 w8 ho hg _;have HQ:=Lh (HP.out.a8 ho hg);clear t0 t1 t2 t3 t4 t5 t6 t7 tl ho hg))
 all_goals
  obtain ⟨A8,c8,rfl,hl,hb⟩:=HQ.out
  have HF:=Lh (And.intro hl hb)
  clear hl hb HQ
  go_wp2
  go_ret
  exact ⟨A8,c8,rfl,HF.out.1,HF.out.2⟩
end Go.Proofs.YtncgbldcjfbknaaGreat
