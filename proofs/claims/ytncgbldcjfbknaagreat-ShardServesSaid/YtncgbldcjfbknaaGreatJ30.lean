/- What is proved here: Table of the statements' base makes a valid table whose messages have routes of the span; New of the statements' base makes a source of a list; Pick of the statements' base picks one of the numbers; From of the statements' base makes a valid shard; FromOf, From, Between, Span, Shard of the statements' base. -/
import Derived.Test.YtncgbldcjfbknaaGreatJ29
namespace Go.Proofs.YtncgbldcjfbknaaGreat
open Go.RowKit
set_option linter.unusedVariables false
def SrTableR (B g:Nat) (n id lo hi:Int) (w:World) (e:Ending) (w' : World):Prop:=∃ A c A2 c2 l h,e=.returned (.agg #[.slice A l.length c,.slice A2 h.length c2])∧TbOk l h∧(l.length:Int)≤n∧(∀ y∈l,id≤y.m.id∧lo≤y.m.rt∧y.m.rt≤hi)∧Nw w.heap.size A∧Nw w.heap.size A2∧El w' w'.heap.size (.slice A l.length c) l∧Dl w' w'.heap.size (.slice A2 h.length c2) h∧SrcAt w' B g∧w.grownBy w' (some g)
theorem gr_in {l:List Le} {h:List Du} {x:Le} {id lo hi:Int} (hl:∀ y∈l,id≤y.m.id∧lo≤y.m.rt∧y.m.rt≤hi) (hx:id≤x.m.id∧lo≤x.m.rt∧x.m.rt≤hi):∀ y∈grL l h x,id≤y.m.id∧lo≤y.m.rt∧y.m.rt≤hi:=by
 intro y hy
 unfold grL at hy
 split at hy
 ·rcases List.mem_cons.1 ((kIns_perm l x).mem_iff.1 hy) with e | e
  ·rw [e];exact hx
  ·exact hl y e
 ·cases hy
theorem gr_le (l:List Le) (h:List Du) (x:Le):(grL l h x).length≤l.length+1:=by
 unfold grL
 split
 ·rw [kIns_len];exact Nat.le_refl _
 ·simp
set_option maxHeartbeats 8000000 in
set_option maxRecDepth 20000 in
theorem tableR_any (B g:Nat) (w:World) (h:SrcAt w B g) (n id lo hi:Int) (n0:0≤n) (n1:n≤12) (i1:1≤id) (i2:id≤1000000) (l0:0≤lo) (l1:lo≤hi) (l2:hi≤65535) :
  Calls Tryz.prog 185 #[.pointer (some ⟨g,0,none⟩),.int .i64 n,.int .i64 id,.int .i64 lo,.int .i64 hi] w (SrTableR B g n id lo hi w):=by
 have H:=Lh h
 have HGW:=Lh (show g<w.heap.size from h.2.1)
 have k1:=RT.start w none 0 0 none 0 0 31
 have k2:=RT.start (w.alloc (.cells #[.slice none 0 0,.slice none 0 0] 31)) none 0 0 none 0 0 31
 rw [show (w.alloc (.cells #[.slice none 0 0,.slice none 0 0] 31)).heap.size=w.heap.size+1 by simp] at k2
 have HT0:=Lh (show TaAt w B g w.heap.size (w.heap.size+1) none 0 [] none 0 [] ((w.alloc (.cells #[.slice none 0 0,.slice none 0 0] 31)).alloc (.cells #[.slice none 0 0,.slice none 0 0] 31)) from
  ⟨k1.below ((Below.refl _ _).alloc (Nat.le_refl _) _) k1.lt,k2,El.nil,Dl.nil,(h.alloc _).alloc _,only_alloc (only_alloc (World.grownBy.refl w (some g)) _) _,⟨nw_none,nw_none⟩,h.2.1,Nat.le_refl _,Nat.lt_succ_self _⟩)
 clear h k1 k2
 go_enter Tryz.func185,Tryz.ntmps185
 go_wp2_with fail
 obtain ⟨r,hr⟩:∃ r,r=w.heap.size:=⟨_,rfl⟩
 obtain ⟨y,hy⟩:∃ y,y=w.heap.size+1:=⟨_,rfl⟩
 rw [←hy,←hr] at HT0 ⊢
 clear hr hy
 generalize ((w.alloc (.cells #[.slice none 0 0,.slice none 0 0] 31)).alloc (.cells #[.slice none 0 0,.slice none 0 0] 31))=w1 at*
 refine (n_any B g _ HT0.out.src (n+1) (by omega) (by omega)).mono ?_
 rintro e w2 ⟨j,rfl,j0,j1,hs,hg⟩
 obtain ⟨j,rfl⟩:=Int.eq_ofNat_of_zero_le j0
 have HT1:=Lh (HT0.out.grownG hs hg)
 clear hs hg j0
 go_wp2
 go_loopw [2,12] (fun idv iv wr=>∃ (j:Nat) (x:Int) (A:Option Addr) (c:Nat) (l:List Le) (A2:Option Addr) (c2:Nat) (h:List Du),iv=.int .i64 j∧idv=.int .i64 x∧(j:Int)≤n∧1≤x∧x+3*(j:Int)≤1000036∧Hid (TaAt w B g r y A c l A2 c2 h wr)∧Hid (TbOk l h)∧id≤x∧(l.length:Int)+j≤n∧Hid (∀ y∈l,id≤y.m.id∧lo≤y.m.rt∧y.m.rt≤hi)) (fun _ iv _=>(intOf iv).toNat)
 case atStart=>exact ⟨j,id,none,0,[],none,0,[],rfl,rfl,by omega,i1,by omega,HT1,Lh TbOk.nil,Int.le_refl _,by simp;omega,Lh (fun y hy=>by cases hy)⟩
 case round=>
  clear HT0 HT1
  obtain ⟨j,x,A,c,l,A2,c2,h,rfl,rfl,hj,x1,x2,HT,HOK,hx0,hln,HIN⟩:=hrel
  by_cases hj0:0<j
  ·have hj0' : (0:Int)<(j:Int):=by omega
   go_wp2_with fail
   refine (message_any B g _ HT.out.src x lo hi).mono ?_
   rintro e w3 ⟨M,rfl,m0,m1,-,-,-,-,-,hs,hg⟩
   have HMM:=Lh (And.intro m0 (msg_rt m1 l0 l1 l2))
   clear m0 m1
   have HT3:=Lh (HT.out.grownG hs hg)
   clear hs hg
   go_wp2
   obtain ⟨N,hN⟩:∃ N:Msg,N=⟨M.id,M.rt,M.ep,M.ct,max M.gn 1,M.st,M.bd⟩:=⟨_,rfl⟩
   have HNM:=Lh (show id≤N.id∧lo≤N.rt∧N.rt≤hi by rw [hN];have h1:=HMM.out.1;have h2:=HMM.out.2;exact ⟨by show id≤M.id;omega,h2.1,h2.2⟩)
   have HZ0:=Lh (RMs.start w3 N 56)
   have HT4:=Lh (HT3.out.below ((Below.refl w3.heap.size w3).alloc (Nat.le_refl _) (.cells #[.int .i64 N.id,.int .i64 N.rt,.int .i64 N.ep,.int .i64 N.ct,.int .i64 N.gn,.int .i64 N.st,.string N.bd] 56)))
   rw [show M.id=N.id by rw [hN],show M.rt=N.rt by rw [hN],show M.ep=N.ep by rw [hN],show M.ct=N.ct by rw [hN],show max M.gn 1=N.gn by rw [hN],show M.st=N.st by rw [hN],show M.bd=N.bd by rw [hN]]
   obtain ⟨z,hz⟩:∃ z,z=w3.heap.size:=⟨_,rfl⟩
   have HZG:=Lh (show z≠g by have:=HT3.out.src.2.1;omega)
   rw [←hz] at HZ0 ⊢
   clear hz hN HT HT3
   generalize w3.alloc (.cells #[.int .i64 N.id,.int .i64 N.rt,.int .i64 N.ep,.int .i64 N.ct,.int .i64 N.gn,.int .i64 N.st,.string N.bd] 56)=w4 at*
   obtain ⟨z0,z1,z2,z3,z4,z5,z6,-,-,-,-,-,-,-,zl⟩:=HZ0.out
   obtain ⟨y0,y1,yf0,yf1,yl⟩:=HT4.out.rb
   go_region_with
    (first
    | (go_at_call 14;(with_reducible refine (n_any B g _ HT4.out.drew.src 30 (by omega) (by omega)).mono ?_);rintro e w5 ⟨xx,rfl,-,-,hs,hg⟩;have HT5:=Lh (HT4.out.drew.grownG hs hg);obtain ⟨q0,q1,q2,q3,q4,q5,q6,-,-,-,-,-,-,-,ql⟩:=RMs.grownG (W:=w4.drew) HZ0.out hg HZG.out;obtain ⟨p0,p1,pf0,pf1,pl⟩:=HT5.out.rb;have HGR:=Lh (rtgrant_any A l.length c l A2 h.length c2 h ⟨N,xx⟩ w5 HT5.out.el HT5.out.dl);have HOK5:=Lh (tb_gr HOK.out ⟨N,xx⟩);have HIN5:=Lh (gr_in HIN.out (x:=⟨N,xx⟩) HNM.out (h:=h));have HLE5:=Lh (gr_le l h ⟨N,xx⟩);clear hs hg)
    | (go_at_call 137;(with_reducible refine HGR.out.mono ?_);rintro e w6 ⟨A6,c6,A7,c7,rfl,n6,n7,h6,h7,hb⟩;have HT6:=Lh (HT5.out.store n6 n7 hb h6 h7);obtain ⟨s0,s1,sf0,sf1,sl⟩:=(HT5.out.below hb).rb;clear n6 n7 h6 h7 hb))
   all_goals
    clear z0 z1 z2 z3 z4 z5 z6 zl y0 y1 yf0 yf1 yl q0 q1 q2 q3 q4 q5 q6 ql p0 p1 pf0 pf1 pl s0 s1 sf0 sf1 sl
    go_wp2_with fail
    refine (range_any B g _ HT6.out.src 1 3 (by omega) (by omega) (by omega)).mono ?_
    rintro e w7 ⟨d,rfl,d1,d2,hs,hg⟩
    have HT7:=Lh (HT6.out.grownG hs hg)
    clear hs hg
    go_wp2
    go_roundw
    case rel=>exact ⟨j - 1,x+d,A6,c6,_,A7,c7,_,by rw [show ((j - 1:Nat):Int)=(j:Int) - 1 by omega],rfl,by omega,by omega,by omega,HT7,HOK5,by omega,by have:=HLE5.out;omega,HIN5⟩
    case measure=>simp [intOf];omega
  ·obtain rfl:j=0:=by omega
   obtain ⟨y0,y1,yf0,yf1,yl⟩:=HT.out.rb
   obtain ⟨r0,r1,rf0,rf1,rl⟩:=HT.out.rs
   have hyr:¬y=r:=by have:=HT.out.ne;omega
   have hry:¬r=y:=fun e=>hyr e.symm
   have HF:=Lh (show SrTableR B g n id lo hi w (.returned (.agg #[.slice A l.length c,.slice A2 h.length c2])) (set2 wr r (.slice A l.length c) (.slice A2 h.length c2)) from by
    have hne:=HT.out.ne
    have hB:=HT.out.src.1
    exact ⟨A,c,A2,c2,l,h,rfl,HOK.out,by omega,HIN.out,nw_low HT.out.nw.1 (by omega),nw_low HT.out.nw.2 (by omega),(HT.out.el.set2 HT.out.nw.1 (by omega)).more (by simp),(HT.out.dl.set2 HT.out.nw.2 (by omega)).more (by simp),
     (HT.out.src.other (p:=⟨r,0,none⟩) (show r≠g by omega) (show B≤r by omega) _).other (p:=⟨r,1,none⟩) (show r≠g by omega) (show B≤r by omega) _,
     only_set (only_set HT.out.grow (p:=⟨r,0,none⟩) (.inr (show w.heap.size≤r by omega)) _) (p:=⟨r,1,none⟩) (.inr (show w.heap.size≤r by omega)) _⟩)
   go_wp2
   exact bodyPost_ret (v:=.agg #[.slice A l.length c,.slice A2 h.length c2]) (by simp only [results,Tryz.results185];go_simp <;> rfl) rfl HF.out
def SrNew (w:World) (e:Ending) (w' : World):Prop:=∃ g,e=.returned (.pointer (some ⟨g,0,none⟩))∧SrcAt w' w.heap.size g∧Below w.heap.size w w'
theorem src_new (w:World) (A:Option Addr) (n c:Nat) (zs:List Int) (t:TypeId) (h:Rd w w.heap.size 1 A n (zs.map i64v)) (hn:n≤4000) (hc:n≤c) (hm:c≤maxLen) (hz:∀ z∈zs,-9223372036854775808≤z∧z≤9223372036854775807) :
  SrNew w (.returned (.pointer (some ⟨w.heap.size,0,none⟩))) (w.alloc (.cells #[.slice A n c,.int .i64 0] t)):=
 ⟨_,rfl,⟨Nat.le_refl _,by simp,A,n,c,0,zs,by omega,hn,hc,hm,by simp [go_sem],by simp [go_sem],by simp [go_sem],h.alloc (Nat.le_refl _) _,hz⟩,(Below.refl _ _).alloc (Nat.le_refl _) _⟩
theorem new_src (A:Option Addr) (n c:Nat) (zs:List Int) (w:World) (h:Ns w w.heap.size (.slice A n c) zs):Calls Tryz.prog 8 #[.slice A n c] w (SrNew w):=by
 obtain ⟨hn,hc,hm,hr,hz⟩:=h.parts
 by_cases h4:(4000:Int)<(n:Int)
 ·have ht' : Tryz.prog.underlying 22=some (.slice (Tryz.prog.elem 22)):=by kernel_rfl
  have he:Tryz.prog.elem 22=3:=by kernel_rfl
  have hz8:∀ w,(Go.sizeOf 3).run Tryz.prog w=.ok 1 w:=Tryz.sizeOf3
  have hcut:∀ W,(Instr.slice 22 (.slice A n c) none (some (.int .i64 4000)) none).run Tryz.prog W=.ok (.slice A 4000 c) W:=fun W=>by
   have hq:=run_slice_h W 22 A n c ht' .i64 4000 (by omega) (by omega)
   rw [hq,he,hz8]
   cases A <;> simp [Result.andThen,sliced,Addr.add]
  have hr4:Rd w w.heap.size 1 A 4000 ((zs.take 4000).map i64v):=by
   have hlen:zs.length=n:=hn.symm
   refine ⟨by simp;omega,fun h0=>?_⟩
   obtain ⟨b,o,rfl,hb,hcc⟩:=hr.2 (by omega)
   refine ⟨b,o,rfl,hb,fun k u hu=>hcc k u ?_⟩
   have hk:k<4000:=by
    have:=(List.getElem?_eq_some_iff.1 hu).1
    simp at this;omega
   rw [←hu,List.map_take,List.getElem?_take_of_lt hk]
  have HN:=Lh (src_new w A 4000 c (zs.take 4000) 75 hr4 (by omega) (by omega) hm (fun z hz'=>hz z (List.mem_of_mem_take hz')))
  clear h hn hc hm hr hz hr4 hz8 he ht'
  go_enter Tryz.func8,Tryz.ntmps8
  go_wp2
  go_ret
  exact HN.out
 ·have HN:=Lh (src_new w A n c zs 75 hr (by omega) hc hm hz)
  clear h hn hc hm hr hz
  go_enter Tryz.func8,Tryz.ntmps8
  go_wp2
  go_ret
  exact HN.out
def SrPick (B g:Nat) (zs:List Int) (w:World) (e:Ending) (w' : World):Prop:=∃ x,e=.returned (.int .i64 x)∧x∈zs∧SrcAt w' B g∧w.grownBy w' (some g)
set_option maxHeartbeats 2000000 in
theorem pick_any (B g:Nat) (w:World) (h:SrcAt w B g) (b n:Nat) (zs:List Int) (hn:n=zs.length) (hb:b<w.heap.size) (hne:b≠g) (h1:1≤n) (h2:n≤1000) (hc:∀ j (hj:j<zs.length),w.cell? ⟨b,j,none⟩=some (.int .i64 zs[j])) :
  Calls Tryz.prog 25 #[.pointer (some ⟨g,0,none⟩),.slice (some ⟨b,0,none⟩) n n] w (SrPick B g zs w):=by
 have HC:=Lh (n_any B g w h n (by omega) (by omega))
 have HR:=Lh hc
 have HN:=Lh hn
 have h2' : (n:Int)≤1000:=by omega
 have HB:=Lh hb
 have HE:=Lh hne
 clear h hc hn h2 hb hne
 go_enter Tryz.func25,Tryz.ntmps25
 go_wp2_with fail
 refine HC.out.mono ?_
 rintro e w1 ⟨x,rfl,hx1,hx2,hs,hg⟩
 obtain ⟨k,rfl⟩:=Int.eq_ofNat_of_zero_le hx1
 have hkl:k<zs.length:=by have:=HN.out;omega
 have hcell:=(hg.cell_far ⟨b,k,none⟩ HB.out (fun e=>HE.out (by injection e))).trans (HR.out k hkl)
 have HM:=Lh (List.getElem_mem hkl)
 generalize zs[k]=z at*
 have hkn:k<n:=by have:=HN.out;omega
 have HS:=Lh hs
 have HG:=Lh hg
 clear hs hg hkl
 go_wp2
 go_ret
 exact ⟨z,rfl,HM.out,HS.out,HG.out⟩
def frS (k:Nat):Sh:=⟨false,0,0,nwC k,0,0,[],[]⟩
def SrSh (S:Sh):Prop:=(∃ V:Vs,V.Ok∧S=V.sh)∨∃ k:Nat,1≤k∧k≤12∧S=frS k
def SrShard (B g:Nat) (w:World) (e:Ending) (w' : World):Prop:=∃ S D,e=.returned (sv S D)∧SrSh S∧D.nw w.heap.size∧SR w' w'.heap.size S D∧SrcAt w' B g∧w.grownBy w' (some g)
theorem base_ok {lo hi id:Int} {k hd:Nat} {L:List Msg} {l:List Le} {h:List Du} (k1:1≤k) (k2:k≤12) (hh:hd<k) (l0:0≤lo) (l1:lo≤hi) (l2:hi≤65535) (hL:(L.length:Int)≤6) (hr:(L.length:Int)+l.length≤k) (hg:Gd L) (t:TbOk l h) (h1:∀ M∈L,id≤M.id∧M.id<id+L.length∧lo≤M.rt∧M.rt≤hi) (h2:∀ y∈l,id+10≤y.m.id∧lo≤y.m.rt∧y.m.rt≤hi):(⟨lo,hi,k,hd,L,l,h⟩:Vs).Ok:=by
 refine ⟨k1,k2,hh,t,⟨l0,l1,by show hi<65536;omega⟩,by show L.length+l.length≤k;omega,⟨fun M hM=>?_,(dup_pair _).2 ?_⟩,fun M hM=>?_⟩
 ·rcases List.mem_append.1 hM with h | h
  ·exact hg.1 M h
  ·obtain ⟨x,hx,rfl⟩:=List.mem_map.1 h
   exact (t.ok x hx).1
 ·show (L++l.map Le.m).Pairwise _
  rw [List.pairwise_append]
  refine ⟨(dup_pair L).1 hg.2,List.pairwise_map.2 (t.asc.imp (fun {a b} h=>by have h' : a.m.id<b.m.id:=h;omega)),fun a ha b hb=>?_⟩
  obtain ⟨x,hx,rfl⟩:=List.mem_map.1 hb
  have:=h1 a ha
  have:=h2 x hx
  omega
 ·rcases List.mem_append.1 hM with h | h
  ·exact (h1 M h).2.2
  ·obtain ⟨x,hx,rfl⟩:=List.mem_map.1 h
   exact (h2 x hx).2
set_option maxHeartbeats 4000000 in
set_option maxRecDepth 20000 in
theorem rfree_any (k:Nat) (w:World) (h1:1≤k) (h2:k≤12) :
  Calls Tryz.prog 183 #[.int .i64 (k:Int)] w (SE w (frS k) 0):=by
 have R0:=Lh (SB8.zero w 33)
 have B0:=Lh ((Below.refl w.heap.size w).alloc (Nat.le_refl _) (.cells #[.bool false,.int .i64 0,.int .i64 0,.slice none 0 0,.int .i64 0,.int .i64 0,.slice none 0 0,.slice none 0 0] 33))
 have HN:=Lh (fun W=>rnew4_any (k:Int) W)
 have hnl:(nwC (k:Int)).length=k:=by rw [(nwC_fil h1 h2 0 (by omega)).1,fil_len]
 rw [(nwC_fil h1 h2 0 (by omega)).2] at HN
 obtain ⟨S,hS⟩:∃ S,S=frS k:=⟨_,rfl⟩
 have HS:=Lh (show S=⟨false,0,0,nwC k,0,0,[],[]⟩ from hS)
 rw [←hS]
 clear hS
 generalize nwC (k:Int)=cs at*
 go_enter Tryz.func183,Tryz.ntmps183
 go_wp2_with fail
 obtain ⟨r,hr⟩:∃ r,r=w.heap.size:=⟨_,rfl⟩
 have HRW:=Lh (show w.heap.size≤r by omega)
 rw [←hr]
 rw [←hr] at R0
 clear hr
 generalize (w.alloc (.cells #[.bool false,.int .i64 0,.int .i64 0,.slice none 0 0,.int .i64 0,.int .i64 0,.slice none 0 0,.slice none 0 0] 33))=w1 at*
 refine (HN.out _).mono ?_
 rintro e w2 ⟨A,c,rfl,hnw,hl,hb⟩
 have B2:=Lh (btr B0.out hb)
 have R2:=Lh (R0.out.up hb)
 have L2:=Lh hl
 have N2:=Lh (nw_low hnw (show r+1≤_ from R0.out.lt))
 clear hb hl hnw
 rw [hnl] at L2 ⊢
 have HF:=Lh (show SE w S 0 (.returned (.tuple #[.agg #[.bool false,.int .i64 0,.int .i64 0,.slice A k c,.int .i64 0,.int .i64 0,.slice none 0 0,.slice none 0 0],.int .i64 0])) ((((((((((w2.setCell ⟨r,0,none⟩ (.bool false)).setCell ⟨r,1,none⟩ (.int .i64 0)).setCell ⟨r,2,none⟩ (.int .i64 0)).setCell ⟨r,3,none⟩ (.slice A k c)).setCell ⟨r,4,none⟩ (.int .i64 0)).setCell ⟨r,5,none⟩ (.int .i64 0)).setCell ⟨r,6,none⟩ (.slice none 0 0)).setCell ⟨r,7,none⟩ (.slice none 0 0)).alloc (.cells #[.slice A k c,.int .i64 0,.int .i64 0] 27))) from by
  rw [HS.out]
  subst hnl
  exact ⟨⟨A,c,none,0,none,0⟩,rfl,⟨nw_low N2.out (by have:=HRW.out;omega),nw_none,nw_none⟩,(SR.sets (S:=⟨false,0,0,cs,0,0,[],[]⟩) (D:=⟨A,c,none,0,none,0⟩) ⟨offb_nw N2.out (Nat.lt_succ_self r),offb_none,offb_none⟩ (Sh.l8 ⟨false,0,0,cs,0,0,[],[]⟩ ⟨A,c,none,0,none,0⟩) 0 w2 ⟨L2.out,El.nil,Dl.nil⟩).up ((Below.refl _ _).alloc (Nat.le_refl _) _),bal (set8s_below HRW.out B2.out ⟨false,0,0,cs,0,0,[],[]⟩ ⟨A,c,none,0,none,0⟩) _⟩)
 obtain ⟨⟨r0,r1,r2,r3,r4,r5,r6,r7,rl⟩,⟨g0,g1,g2,g3,g4,g5,g6,g7⟩⟩:=R2.out.all
 clear hnl
 go_wp2
 exact bodyPost_ret (v:=.tuple #[.agg #[.bool false,.int .i64 0,.int .i64 0,.slice A k c,.int .i64 0,.int .i64 0,.slice none 0 0,.slice none 0 0],.int .i64 0]) (by simp only [results,Tryz.results183];go_simp <;> rfl) rfl HF.out
theorem SB8.grownG {W W' : World} {p g:Nat} {S:Sh} {D:Sx} (h:SB8 W p S D) (hg:W.grownBy W' (some g)) (hne:p≠g):SB8 W' p S D:=h.grown hg (fun x e=>by injection e with e;omega)
theorem only_sets8 {a W:World} {g r:Nat} (h:a.grownBy W (some g)) (hr:a.heap.size≤r) (S:Sh) (D:Sx):a.grownBy (set8s W r S D) (some g):=
 only_set (only_set (only_set (only_set (only_set (only_set (only_set (only_set h (p:=⟨r,0,none⟩) (.inr hr) _) (p:=⟨r,1,none⟩) (.inr hr) _) (p:=⟨r,2,none⟩) (.inr hr) _) (p:=⟨r,3,none⟩) (.inr hr) _) (p:=⟨r,4,none⟩) (.inr hr) _) (p:=⟨r,5,none⟩) (.inr hr) _) (p:=⟨r,6,none⟩) (.inr hr) _) (p:=⟨r,7,none⟩) (.inr hr) _
theorem SrcAt.sets8 {W:World} {B g r:Nat} (h:SrcAt W B g) (hr:r≠g) (hB:B≤r) (S:Sh) (D:Sx):SrcAt (set8s W r S D) B g:=
 (((((((h.other (p:=⟨r,0,none⟩) hr hB _).other (p:=⟨r,1,none⟩) hr hB _).other (p:=⟨r,2,none⟩) hr hB _).other (p:=⟨r,3,none⟩) hr hB _).other (p:=⟨r,4,none⟩) hr hB _).other (p:=⟨r,5,none⟩) hr hB _).other (p:=⟨r,6,none⟩) hr hB _).other (p:=⟨r,7,none⟩) hr hB _
set_option maxHeartbeats 8000000 in
set_option maxRecDepth 20000 in
theorem fromof_any (B g:Nat) (w:World) (hsrc:SrcAt w B g) (k:Nat) (id lo hi:Int) (k1:1≤k) (k2:k≤12) (i1:1≤id) (i2:id≤100000) (l0:0≤lo) (l1:lo≤hi) (l2:hi≤65535) :
  Calls Tryz.prog 144 #[.pointer (some ⟨g,0,none⟩),.int .i64 (k:Int),.int .i64 id,.int .i64 lo,.int .i64 hi] w (SrShard B g w):=by
 have H:=Lh hsrc
 have HG0:=Lh (show g<w.heap.size∧B≤g from ⟨hsrc.2.1,hsrc.1⟩)
 have R0:=Lh (SB8.zero w 33)
 have G0:=Lh (only_alloc (World.grownBy.refl w (some g)) (.cells #[.bool false,.int .i64 0,.int .i64 0,.slice none 0 0,.int .i64 0,.int .i64 0,.slice none 0 0,.slice none 0 0] 33))
 have S0:=Lh (hsrc.alloc (.cells #[.bool false,.int .i64 0,.int .i64 0,.slice none 0 0,.int .i64 0,.int .i64 0,.slice none 0 0,.slice none 0 0] 33))
 clear hsrc
 go_enter Tryz.func144,Tryz.ntmps144
 go_wp2_with fail
 obtain ⟨r,hr⟩:∃ r,r=w.heap.size:=⟨_,rfl⟩
 have HRW:=Lh (show w.heap.size≤r∧¬r=g∧B≤r∧g<r by have:=HG0.out;omega)
 rw [←hr]
 rw [←hr] at R0
 clear hr
 generalize (w.alloc (.cells #[.bool false,.int .i64 0,.int .i64 0,.slice none 0 0,.int .i64 0,.int .i64 0,.slice none 0 0,.slice none 0 0] 33))=w1 at*
 refine (n_any B g _ S0.out 12 (by omega) (by omega)).mono ?_
 rintro e w2 ⟨x,rfl,x0,x1,hs,hg⟩
 have S1:=Lh hs
 have R1:=Lh (R0.out.grownG hg HRW.out.2.1)
 have G1:=Lh (G0.out.trans hg)
 clear hs hg
 by_cases hx:x=11
 ·subst hx
  obtain ⟨S,hS⟩:∃ S,S=frS k:=⟨_,rfl⟩
  have HSS:=Lh (show SrSh S from .inr ⟨k,k1,k2,hS⟩)
  have HFR:=Lh (fun W=>rfree_any k W k1 k2)
  rw [←hS] at HFR
  clear hS
  go_wp2_with fail
  refine (HFR.out _).mono ?_
  rintro e w4 ⟨D,rfl,hn,hr,hb⟩
  have R4:=Lh (R1.out.up hb)
  have N4:=Lh (show D.nw (r+1) from hn.low R1.out.lt)
  have HF:=Lh (show SrShard B g w (.returned (sv S D)) ((((((((((w4.setCell ⟨r,0,none⟩ (.bool S.lv)).setCell ⟨r,1,none⟩ (.int .i64 S.lo)).setCell ⟨r,2,none⟩ (.int .i64 S.hi)).setCell ⟨r,3,none⟩ (.slice D.A S.cs.length D.c)).setCell ⟨r,4,none⟩ (.int .i64 S.hd)).setCell ⟨r,5,none⟩ (.int .i64 S.sz)).setCell ⟨r,6,none⟩ (.slice D.A2 S.l.length D.c2)).setCell ⟨r,7,none⟩ (.slice D.A3 S.h.length D.c3))).alloc (.cells #[.bool S.lv,.int .i64 S.lo,.int .i64 S.hi,.slice D.A S.cs.length D.c,.int .i64 S.hd,.int .i64 S.sz,.slice D.A2 S.l.length D.c2,.slice D.A3 S.h.length D.c3] 33)) from
   ⟨S,D,rfl,HSS.out,N4.out.low (by have:=HRW.out;omega),(SR.sets (N4.out.off (Nat.lt_succ_self r)) (S.l8 D) 0 w4 hr).up ((Below.refl _ _).alloc (Nat.le_refl _) _),((S1.out.below hb).sets8 HRW.out.2.1 HRW.out.2.2.1 S D).alloc _,only_alloc (only_sets8 (only_below G1.out hb) HRW.out.1 S D) _⟩)
  clear hn hr hb
  obtain ⟨⟨r0,r1,r2,r3,r4,r5,r6,r7,rl⟩,⟨g0,g1,g2,g3,g4,g5,g6,g7⟩⟩:=R4.out.all
  go_wp2
  exact bodyPost_ret (v:=sv S D) (by simp only [results,Tryz.results144];go_simp <;> rfl) rfl HF.out
 ·have hxb:(x==11)=false:=beq_eq_false_iff_ne.2 hx
  have HRG:=Lh (fun W (q:SrcAt W B g)=>ringofR_any B g W q k 6 id lo hi k1 k2 (by omega) (by omega) i1 (by omega) l0 l1 l2)
  have HTB:=Lh (fun n (n0:0≤n) (n1:n≤12) W (q:SrcAt W B g)=>tableR_any B g W q n (id+10) lo hi n0 n1 (by omega) (by omega) l0 l1 l2)
  have HOK:=Lh (fun hd L l h a b c d e f g=>base_ok (lo:=lo) (hi:=hi) (id:=id) (k:=k) (hd:=hd) (L:=L) (l:=l) (h:=h) k1 k2 a l0 l1 l2 b c d e f g)
  have hw10:wrap64 (id+10)=id+10:=IntWalk.wrap64_in _ (by omega)
  clear hx x0 x1
  go_wp2_with fail
  refine (HRG.out _ S1.out).mono ?_
  rintro e w3 ⟨A,c,hd,L,rfl,hnw,hl,hhd,hlk,hl6,hgd,hids,hs,hg⟩
  have S3:=Lh (hs.alloc (.cells #[.bool true,.int .i64 lo,.int .i64 hi,.slice A k c,.int .i64 hd,.int .i64 L.length,.slice none 0 0,.slice none 0 0] 33))
  have R3:=Lh ((R1.out.grownG hg HRW.out.2.1).up ((Below.refl _ _).alloc (Nat.le_refl _) (.cells #[.bool true,.int .i64 lo,.int .i64 hi,.slice A k c,.int .i64 hd,.int .i64 L.length,.slice none 0 0,.slice none 0 0] 33)))
  have G3:=Lh (only_alloc (G1.out.trans hg) (.cells #[.bool true,.int .i64 lo,.int .i64 hi,.slice A k c,.int .i64 hd,.int .i64 L.length,.slice none 0 0,.slice none 0 0] 33))
  have N3:=Lh (show Nw (r+1) A from nw_low hnw R1.out.lt)
  have HCL:=Lh (show k=(fil k hd L).length by rw [fil_len])
  have L3:=Lh (hl.up ((Below.refl _ _).alloc (Nat.le_refl _) (.cells #[.bool true,.int .i64 lo,.int .i64 hi,.slice A k c,.int .i64 hd,.int .i64 L.length,.slice none 0 0,.slice none 0 0] 33)))
  have O3:=Lh (show OffB w3.heap.size k A from rd_off hl.rd (Nat.le_refl _))
  have HII:=Lh (And.intro hhd (And.intro hl6 (And.intro hgd hids)))
  have HQ:=Lh (show r<w3.heap.size∧g<w3.heap.size from ⟨Nat.lt_of_lt_of_le R1.out.lt hg.size,hs.2.1⟩)
  have hwk:wrap64 ((k:Int) - (L.length:Int))=(k:Int) - (L.length:Int):=IntWalk.wrap64_in _ (by omega)
  have hmn0:0≤min 4 ((k:Int) - (L.length:Int)):=by omega
  have hmn1:min 4 ((k:Int) - (L.length:Int))≤12:=by omega
  have HTB':=Lh (HTB.out _ hmn0 hmn1)
  have HMN:=Lh (show min 4 ((k:Int) - (L.length:Int))≤(k:Int) - (L.length:Int) by omega)
  clear hs hg hnw hl hhd hlk hl6 hgd hids hmn0 hmn1
  go_wp2_with fail
  obtain ⟨q,hq⟩:∃ q,q=w3.heap.size:=⟨_,rfl⟩
  have HQQ:=Lh (show ¬q=g∧¬q=r∧¬r=q∧r<q∧B≤q by have h1:=HQ.out;have h2:=HRW.out;omega)
  have hqa:q<(w3.alloc (.cells #[.bool true,.int .i64 lo,.int .i64 hi,.slice A k c,.int .i64 hd,.int .i64 L.length,.slice none 0 0,.slice none 0 0] 33)).heap.size:=by rw [hq];simp
  have q3c:(w3.alloc (.cells #[.bool true,.int .i64 lo,.int .i64 hi,.slice A k c,.int .i64 hd,.int .i64 L.length,.slice none 0 0,.slice none 0 0] 33)).cell? ⟨q,3,none⟩=some (.slice A k c):=by rw [hq];simp [go_sem]
  have HQ8:=Lh (show SB8 (w3.alloc (.cells #[.bool true,.int .i64 lo,.int .i64 hi,.slice A k c,.int .i64 hd,.int .i64 L.length,.slice none 0 0,.slice none 0 0] 33)) q ⟨true,lo,hi,fil k hd L,hd,L.length,[],[]⟩ ⟨A,c,none,0,none,0⟩ from by
   have h:=SB8.start w3 ⟨true,lo,hi,fil k hd L,hd,L.length,[],[]⟩ ⟨A,c,none,0,none,0⟩ 33
   rw [←hq] at h
   simp only [fil_len] at h
   exact h)
  rw [←hq] at O3 ⊢
  clear hq q3c hqa
  generalize w3.alloc (.cells #[.bool true,.int .i64 lo,.int .i64 hi,.slice A k c,.int .i64 hd,.int .i64 L.length,.slice none 0 0,.slice none 0 0] 33)=w4 at*
  refine (HTB'.out _ S3.out).mono ?_
  rintro e w5 ⟨A2,c2,A3,c3,l,h,rfl,ht,hln,hin,hn2,hn3,he2,hd3,hs,hg⟩
  have S5:=Lh hs
  have R5:=Lh (R3.out.grownG hg HRW.out.2.1)
  have Q5:=Lh (HQ8.out.grownG hg HQQ.out.1)
  have G5:=Lh (G3.out.trans hg)
  have V5:=Lh (HOK.out hd L l h HII.out.1 HII.out.2.1 (by have:=HMN.out;omega) HII.out.2.2.1 ht HII.out.2.2.2 hin)
  have L5:=Lh ((Ls.grownR L3.out (Nat.le_refl _) hg (fun x e=>by injection e with e;subst e;exact offb_nw N3.out (by have:=HRW.out;omega))).more hg.size)
  have N5:=Lh (show Nw (q+1) A2∧Nw (q+1) A3 from ⟨nw_low hn2 HQ8.out.lt,nw_low hn3 HQ8.out.lt⟩)
  have D5:=Lh (And.intro he2 hd3)
  clear ht hln hin hn2 hn3 he2 hd3 hs hg
  have HF:=Lh (show SrShard B g w (.returned (.agg #[.bool true,.int .i64 lo,.int .i64 hi,.slice A k c,.int .i64 hd,.int .i64 L.length,.slice A2 l.length c2,.slice A3 h.length c3])) (((((((((((w5.setCell ⟨q,6,none⟩ (.slice A2 l.length c2)).setCell ⟨q,7,none⟩ (.slice A3 h.length c3)).setCell ⟨r,0,none⟩ (.bool true)).setCell ⟨r,1,none⟩ (.int .i64 lo)).setCell ⟨r,2,none⟩ (.int .i64 hi)).setCell ⟨r,3,none⟩ (.slice A k c)).setCell ⟨r,4,none⟩ (.int .i64 hd)).setCell ⟨r,5,none⟩ (.int .i64 L.length)).setCell ⟨r,6,none⟩ (.slice A2 l.length c2)).setCell ⟨r,7,none⟩ (.slice A3 h.length c3))) from by
   have hne:=HRW.out
   have hqq:=HQQ.out
   have hsl:(⟨lo,hi,k,hd,L,l,h⟩:Vs).sh=⟨true,lo,hi,fil k hd L,hd,L.length,l,h⟩:=rfl
   have hrr:SR ((w5.setCell ⟨q,6,none⟩ (.slice A2 l.length c2)).setCell ⟨q,7,none⟩ (.slice A3 h.length c3)) (((w5.setCell ⟨q,6,none⟩ (.slice A2 l.length c2)).setCell ⟨q,7,none⟩ (.slice A3 h.length c3))).heap.size ⟨true,lo,hi,fil k hd L,hd,L.length,l,h⟩ ⟨A,c,A2,c2,A3,c3⟩:=
    ⟨by show Ls _ _ (.slice A (fil k hd L).length c) _;rw [fil_len];exact ((L5.out.offp (p:=⟨q,6,none⟩) O3.out _).offp (p:=⟨q,7,none⟩) O3.out _).more (by simp),
     ((D5.out.1.offp (p:=⟨q,6,none⟩) (offb_nw N5.out.1 (Nat.lt_succ_self q)) _).offp (p:=⟨q,7,none⟩) (offb_nw N5.out.1 (Nat.lt_succ_self q)) _).more (by simp),
     ((D5.out.2.offp (p:=⟨q,6,none⟩) (offb_nw N5.out.2 (Nat.lt_succ_self q)) _).offp (p:=⟨q,7,none⟩) (offb_nw N5.out.2 (Nat.lt_succ_self q)) _).more (by simp)⟩
   have hs5:=(S5.out.other (p:=⟨q,6,none⟩) (show q≠g by omega) (show B≤q by omega) (.slice A2 l.length c2)).other (p:=⟨q,7,none⟩) (show q≠g by omega) (show B≤q by omega) (.slice A3 h.length c3)
   have hg5:=only_set (only_set G5.out (p:=⟨q,6,none⟩) (.inr (show w.heap.size≤q by omega)) (.slice A2 l.length c2)) (p:=⟨q,7,none⟩) (.inr (show w.heap.size≤q by omega)) (.slice A3 h.length c3)
   have hfin:SrShard B g w (.returned (.agg #[.bool true,.int .i64 lo,.int .i64 hi,.slice A (fil k hd L).length c,.int .i64 hd,.int .i64 L.length,.slice A2 l.length c2,.slice A3 h.length c3])) ((((((((((w5.setCell ⟨q,6,none⟩ (.slice A2 l.length c2)).setCell ⟨q,7,none⟩ (.slice A3 h.length c3)).setCell ⟨r,0,none⟩ (.bool true)).setCell ⟨r,1,none⟩ (.int .i64 lo)).setCell ⟨r,2,none⟩ (.int .i64 hi)).setCell ⟨r,3,none⟩ (.slice A (fil k hd L).length c)).setCell ⟨r,4,none⟩ (.int .i64 hd)).setCell ⟨r,5,none⟩ (.int .i64 L.length)).setCell ⟨r,6,none⟩ (.slice A2 l.length c2)).setCell ⟨r,7,none⟩ (.slice A3 h.length c3)):=
    ⟨⟨true,lo,hi,fil k hd L,hd,L.length,l,h⟩,⟨A,c,A2,c2,A3,c3⟩,rfl,.inl ⟨_,V5.out,hsl.symm⟩,⟨nw_low N3.out (by omega),nw_low N5.out.1 (by omega),nw_low N5.out.2 (by omega)⟩,
     SR.sets ⟨offb_nw N3.out (Nat.lt_succ_self r),offb_nw (nw_low N5.out.1 (show r+1≤q+1 by omega)) (Nat.lt_succ_self r),offb_nw (nw_low N5.out.2 (show r+1≤q+1 by omega)) (Nat.lt_succ_self r)⟩ (Sh.l8 ⟨true,lo,hi,fil k hd L,hd,L.length,l,h⟩ ⟨A,c,A2,c2,A3,c3⟩) 0 _ hrr,
     hs5.sets8 hne.2.1 hne.2.2.1 ⟨true,lo,hi,fil k hd L,hd,L.length,l,h⟩ ⟨A,c,A2,c2,A3,c3⟩,only_sets8 hg5 hne.1 ⟨true,lo,hi,fil k hd L,hd,L.length,l,h⟩ ⟨A,c,A2,c2,A3,c3⟩⟩
   rw [fil_len] at hfin
   exact hfin)
  obtain ⟨⟨t0,t1,t2,t3,t4,t5,t6,t7,tl⟩,⟨f0,f1,f2,f3,f4,f5,f6,f7⟩⟩:=Q5.out.all
  simp only [fil_len] at t3
  obtain ⟨⟨r0,r1,r2,r3,r4,r5,r6,r7,rl⟩,⟨g0,g1,g2,g3,g4,g5,g6,g7⟩⟩:=R5.out.all
  obtain ⟨-,hqr,hrq,-,-⟩:=HQQ.out
  clear hwk hw10
  go_wp2
  exact bodyPost_ret (v:=.agg #[.bool true,.int .i64 lo,.int .i64 hi,.slice A k c,.int .i64 hd,.int .i64 L.length,.slice A2 l.length c2,.slice A3 h.length c3]) (by simp only [results,Tryz.results144];go_simp <;> rfl) rfl HF.out
end Go.Proofs.YtncgbldcjfbknaaGreat
