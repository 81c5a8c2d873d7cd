/- What is proved here: (plain) what Detach and Absorb of rings return; (plain) what keeps 'nothing old is turned' along a walk; a ring that a statement holds; shard.Stored by a contract; slices.BinarySearchFunc of leases, lease.place by contracts. -/
import Derived.Test.YtdobenkkkkaipaaGreatJ21
import Derived.Deep.LoopGhost
namespace Go.Proofs.YtdobenkkkkaipaaGreat
open Go.RowKit
set_option linter.unusedVariables false
noncomputable def dtE (cs:List Msg) (hd sz k:Int):Int:=if rgV cs hd sz≠0 then rgV cs hd sz else if wi k 0 sz=true then 0 else 1
noncomputable def dtC (cs:List Msg) (hd sz k:Int):List Msg:=if dtE cs hd sz k=0 then fil cs.length hd.toNat ((ord cs hd.toNat sz.toNat).take (sz - k).toNat) else []
noncomputable def dtL (cs:List Msg) (hd sz k:Int):List Msg:=if dtE cs hd sz k=0 then (ord cs hd.toNat sz.toNat).drop (sz - k).toNat else []
noncomputable def abE (cs:List Msg) (hd sz:Int):List Msg→Int
 | []=>0
 | M::r=>if puE cs hd sz M=0 then abE (pbC cs hd sz M) hd (sz+1) r else puE cs hd sz M
noncomputable def abS (cs:List Msg) (hd sz:Int):List Msg→List Msg
 | []=>cs
 | M::r=>abS (pbC cs hd sz M) hd (sz+1) r
noncomputable def aoE (cs:List Msg) (hd sz:Int) (l:List Msg):Int:=if rgV cs hd sz≠0 then rgV cs hd sz else if (cs.length:Int) - sz<(l.length:Int) then 3 else abE cs hd sz l
noncomputable def aoC (cs:List Msg) (hd sz:Int) (l:List Msg):List Msg:=if aoE cs hd sz l=0 then abS cs hd sz l else []
section
variable {n hd:Nat} {l:List Msg}
end
def RLP (w:World) (cs:List Msg) (hd sz:Int) (l:List Msg) (x:Int) (e:Ending) (w' : World):Prop:=∃ A c A2 c2,e=.returned (.tuple #[.agg #[.slice A cs.length c,.int .i64 hd,.int .i64 sz],.slice A2 l.length c2,.int .i64 x])∧Nw w.heap.size A∧Nw w.heap.size A2∧Ls w' w'.heap.size (.slice A cs.length c) cs∧Ls w' w'.heap.size (.slice A2 l.length c2) l∧Below w.heap.size w w'
def RQP (w:World) (A0:Option Addr) (cs:List Msg) (hd sz x:Int) (e:Ending) (w' : World):Prop:=∃ A c,e=.returned (.tuple #[.agg #[.slice A cs.length c,.int .i64 hd,.int .i64 sz],.int .i64 x])∧(Nw w.heap.size A∨A=A0)∧Ls w' w'.heap.size (.slice A cs.length c) cs∧Below w.heap.size w w'
theorem bal {a w:World} (h:Below a.heap.size a w) (o:Obj):Below a.heap.size a (w.alloc o):=h.alloc h.size o
theorem bst {a w:World} (h:Below a.heap.size a w) {p:Addr} (hp:a.heap.size≤p.block) (v:Value):Below a.heap.size a (w.setCell p v):=h.setCell hp v
theorem btr {a b c:World} (h:Below a.heap.size a b) (k:Below b.heap.size b c):Below a.heap.size a c:=h.trans (k.mono h.size)
def ReN (wr:World) (A4:Option Addr) (k c4:Nat) (hd z:Int) (X:Msg) (l:List Msg) (W:World) (x m:Nat):Prop:=
 Below wr.heap.size wr W∧RB W x A4 k c4 hd z∧MAt W m X.nth X.bd∧Ls W W.heap.size (.slice A4 k c4) l
section
variable {wr w4:World} {A4:Option Addr} {k c4 lo x m:Nat} {hd z:Int} {X:Msg} {l:List Msg}
end
structure RvAt (w:World) (p:Nat) (A:Option Addr) (k c hd:Nat) (L:List Msg) (AL:Option Addr) (cL:Nat) (W:World):Prop where
 rb:RB W p A k c hd L.length
 ls:Ls W W.heap.size (.slice A k c) (fil k hd L)
 la:Ls W W.heap.size (.slice AL L.length cL) L
 bel:Below w.heap.size w W
 old:w.heap.size≤p
def RMQ (w0 w:World) (cs:List Msg) (hd sz:Int) (X:Msg) (x:Int) (e:Ending) (w' : World):Prop:=∃ A c,e=.returned (.tuple #[.agg #[.slice A cs.length c,.int .i64 hd,.int .i64 sz],X.v,.int .i64 x])∧Nw w.heap.size A∧Ls w' w'.heap.size (.slice A cs.length c) cs∧Below w.heap.size w w'∧Below w0.heap.size w0 w'
def LsQ (w0:World) (l:List Msg) (w:World) (e:Ending) (w' : World):Prop:=∃ A c,e=.returned (.slice A l.length c)∧Nw w.heap.size A∧Ls w' w'.heap.size (.slice A l.length c) l∧Below w.heap.size w w'∧Below w0.heap.size w0 w'
noncomputable def stF (S:Sh):Int:=if exS S true=0 then S.sz+S.l.length else 0
theorem ex_nums {S:Sh} {b:Bool} (h:exS S b=0):1≤S.cs.length∧S.cs.length≤12∧0≤S.sz∧S.sz≤12∧S.l.length≤12∧S.h.length≤12:=by
 obtain ⟨-,V,k,rfl⟩:=vs_ex h
 have h1:=k.room
 have h2:=k.tb.len
 have h3:=k.tb.hlen
 have h4:=k.n1
 have h5:=k.n2
 have h6:V.sh.cs.length=V.n:=fil_len _ _ _
 have h7:V.sh.sz=(V.L.length:Int):=rfl
 have h8:V.sh.l=V.l:=rfl
 have h9:V.sh.h=V.h:=rfl
 rw [h6,h7,h8,h9]
 omega
set_option maxHeartbeats 4000000 in
set_option maxRecDepth 20000 in
theorem sstored_any (S:Sh) (D:Sx) (w:World) (hs:SR w w.heap.size S D) :
  Calls Tryz.prog 22 #[sv S D] w (VlT w (stF S)):=by
 have H0:=Lh (SAt.start 33 hs)
 have HV:=Lh (fun p W (k:SAt w p S D W)=>sexam_any S D none 0 0 [] W k.sr Nl.nil)
 have HE:([]:List Rn).all Rn.ok=true:=rfl
 rw [HE] at HV
 clear hs HE
 go_enter Tryz.func22,Tryz.ntmps22
 obtain ⟨t0,t1,t2,t3,t4,t5,t6,t7,tl⟩:=H0.out.s8.facts
 go_wp2_with fail
 clear t0 t1 t2 t3 t4 t5 t6 t7 tl
 obtain ⟨p,hp⟩:∃ p,p=w.heap.size:=⟨_,rfl⟩
 rw [←hp]
 rw [←hp] at H0
 clear hp
 generalize w.alloc (.cells #[.bool S.lv,.int .i64 S.lo,.int .i64 S.hi,.slice D.A S.cs.length D.c,.int .i64 S.hd,.int .i64 S.sz,.slice D.A2 S.l.length D.c2,.slice D.A3 S.h.length D.c3] 33)=w1 at*
 refine (HV.out _ _ H0.out).mono ?_
 rintro e w2 ⟨rfl,hb⟩
 have H1:=Lh (H0.out.below hb)
 clear hb
 by_cases h1:exS S true=0
 ·have HX:=Lh (show stF S=S.sz+S.l.length from if_pos h1)
  have hn:=ex_nums h1
  have HSZ:=Lh (fun W=>ssize_any S D W hn.2.2.1 (by omega) (by omega))
  rw [h1]
  clear h1 hn
  obtain ⟨t0,t1,t2,t3,t4,t5,t6,t7,tl⟩:=H1.out.s8.facts
  go_wp2_with fail
  clear t0 t1 t2 t3 t4 t5 t6 t7 tl
  refine (HSZ.out _).mono ?_
  rintro e w3 ⟨rfl,hb⟩
  have H2:=Lh (H1.out.below hb)
  clear hb
  go_wp2
  go_ret
  exact ⟨by rw [HX.out];rfl,H2.out.bel⟩
 ·have HX:=Lh (show stF S=0 from if_neg h1)
  have hne:(exS S true != 0)=true:=bne_iff_ne.2 h1
  clear h1
  generalize exS S true=x at*
  go_wp2
  go_ret
  exact ⟨by rw [HX.out];rfl,H1.out.bel⟩
theorem place1_any (X:Le) (id:Int) (w:World):Calls Tryz.prog 166 #[X.v,.int .i64 id] w fun e w'=>e=.returned (.int .i64 (ciF X.m.id id))∧Below w.heap.size w w':=by
 have HB:=Lh ((Below.refl w.heap.size w).alloc (Nat.le_refl _) (.cells #[.int .i64 X.m.id,.int .i64 X.m.rt,.int .i64 X.m.ep,.int .i64 X.m.ct,.int .i64 X.m.gn,.int .i64 X.m.st,.string X.m.bd,.int .i64 X.dl] 56))
 have HC:=Lh (fun W=>cmpint_any X.m.id id W)
 go_enter Tryz.func166,Tryz.ntmps166
 go_wp2_with fail
 refine (HC.out _).mono ?_
 rintro e w1 ⟨rfl,rfl⟩
 go_wp2
 go_ret
 exact ⟨rfl,HB.out⟩
theorem ciF_lt {x y:Int} (h:x<y):ciF x y = -1:=if_pos h
theorem ciF_gt {x y:Int} (h:y<x):ciF x y=1:=by unfold ciF;rw [if_neg (by omega),if_pos h]
theorem ciF_eq {x y:Int} (h:x=y):ciF x y=0:=by unfold ciF;rw [if_neg (by omega),if_neg (by omega)]
theorem ciF_ne {x y:Int} (h:¬x=y):(ciF x y==0)=false:=by
 rcases Int.lt_trichotomy x y with k | k | k
 ·rw [ciF_lt k];rfl
 ·exact absurd k h
 ·rw [ciF_gt k];rfl
structure Bs2 (l:List Le) (x:Int) (lo hi:Nat):Prop where
 lo_:∀ j (hj:j<l.length),j<lo→l[j].id<x
 hi_:∀ j (hj:j<l.length),hi≤j→x≤l[j].id
theorem Bs2.start (l:List Le) (x:Int):Bs2 l x 0 l.length:=⟨fun j _ h=>absurd h (Nat.not_lt_zero _),fun j hj h=>absurd hj (by omega)⟩
theorem Bs2.up {l:List Le} {x:Int} {lo hi m:Nat} (h:Bs2 l x lo hi) (ha:Asc Le.id l) (hm:m<l.length) (hx:l[m].id<x):Bs2 l x (m+1) hi:=
 ⟨fun j hj h'=>by
  by_cases e:j=m
  ·subst e;exact hx
  ·exact Int.lt_trans (ha.lt (i:=j) (j:=m) (by omega) hm) hx,h.hi_⟩
theorem Bs2.dn {l:List Le} {x:Int} {lo hi m:Nat} (h:Bs2 l x lo hi) (ha:Asc Le.id l) (hm:m<l.length) (hx:x≤l[m].id):Bs2 l x lo m:=
 ⟨h.lo_,fun j hj h'=>by
  by_cases e:j=m
  ·subst e;exact hx
  ·exact Int.le_trans hx (Int.le_of_lt (ha.lt (i:=m) (j:=j) (by omega) hj))⟩
theorem Bs2.at_ {l:List Le} {x:Int} {i:Nat} (h:Bs2 l x i i) (hi:i≤l.length):kAt Le.id l x=i:=
 kAt_hit hi (fun j hj=>h.lo_ j _ hj) fun hk=>h.hi_ i hk (Nat.le_refl _)
def PlR (l:List Le) (x:Int) (w:World) (e:Ending) (w' : World):Prop:=e=.returned (.tuple #[.int .i64 (kAt Le.id l x),.bool (kHas Le.id l x)])∧Below w.heap.size w w'
set_option maxHeartbeats 4000000 in
set_option maxRecDepth 20000 in
theorem bsearch_any (A:Option Addr) (n c:Nat) (l:List Le) (id:Int) (w:World) (hv:El w w.heap.size (.slice A n c) l) (ha:Asc Le.id l) (h12:n≤1000) :
  Calls Tryz.prog 165 #[.slice A n c,.int .i64 id,.func (.func 166) #[] #[]] w (PlR l id w):=by
 obtain ⟨rfl,hm1,hm2⟩:=hv.len
 have HV:=Lh hv
 have HA:=Lh ha
 have HB:=Lh (Below.refl w.heap.size w)
 have HS:=Lh (Bs2.start l id)
 clear hv ha hm1 hm2
 go_enter Tryz.func165,Tryz.ntmps165
 go_wp2
 go_loopg [9,10] l.length (fun kx s9 s10 wr=>∃ lo hi:Nat,s9=.int .i64 lo∧s10=.int .i64 hi∧lo≤hi∧hi≤l.length∧hi - lo≤kx∧Hid (Below w.heap.size w wr)∧Hid (Bs2 l id lo hi))
 case atStart=>exact ⟨0,l.length,rfl,rfl,Nat.zero_le _,Nat.le_refl _,by omega,HB,HS⟩
 case round=>
  clear HB HS
  obtain ⟨lo,hi,rfl,rfl,hlh,hin,hg,HB,HS⟩:=hrel
  have HVK:=Lh (HV.out.below HB.out)
  by_cases hlt:lo<hi
  ·have hm:(lo+hi) / 2<l.length:=by omega
   obtain ⟨b,o,rfl,_⟩:=HVK.out.some_ (by omega)
   obtain ⟨⟨c0,c1,c2,c3,c4,c5,c6,c7⟩,hb⟩:=HVK.out.c8 hm
   obtain ⟨X,hX⟩:∃ X,l[(lo+hi) / 2]=X:=⟨_,rfl⟩
   rw [hX] at c0 c1 c2 c3 c4 c5 c6 c7
   have HX:=Lh hX
   have HC:=Lh (fun W=>place1_any X id W)
   clear hX hb
   by_cases hx:X.m.id<id
   ·rw [ciF_lt hx] at HC
    have HN:=Lh (HS.out.up HA.out hm (by rw [HX.out];exact hx))
    clear hx
    go_wp2_with fail
    refine (HC.out _).mono ?_
    rintro e w1 ⟨rfl,hb1⟩
    have HB1:=Lh (HB.out.trans (hb1.mono HB.out.size))
    clear hb1 c0 c1 c2 c3 c4 c5 c6 c7
    go_wp2
    go_roundg (hi - ((lo+hi) / 2+1))
    case measure=>omega
    case rel=>exact ⟨(lo+hi) / 2+1,hi,by rw [show ((lo:Int)+(hi:Int)) / 2+1=(((lo+hi) / 2+1:Nat):Int) by omega],rfl,by omega,hin,Nat.le_refl _,HB1,HN⟩
   ·have HN:=Lh (HS.out.dn HA.out hm (by rw [HX.out];exact Int.not_lt.1 hx))
    have hci:¬ciF X.m.id id<0:=by unfold ciF;rw [if_neg hx];split <;> omega
    clear hx
    generalize ciF X.m.id id=y at*
    go_wp2_with fail
    refine (HC.out _).mono ?_
    rintro e w1 ⟨rfl,hb1⟩
    have HB1:=Lh (HB.out.trans (hb1.mono HB.out.size))
    clear hb1 c0 c1 c2 c3 c4 c5 c6 c7
    go_wp2
    go_roundg ((lo+hi) / 2 - lo)
    case measure=>omega
    case rel=>exact ⟨lo,(lo+hi) / 2,rfl,by rw [show ((lo:Int)+(hi:Int)) / 2=(((lo+hi) / 2:Nat):Int) by omega],by omega,by omega,Nat.le_refl _,HB1,HN⟩
  ·obtain rfl:hi=lo:=by omega
   have HK:=Lh (HS.out.at_ hin)
   by_cases hn:hi<l.length
   ·obtain ⟨b,o,rfl,_⟩:=HVK.out.some_ (by omega)
    obtain ⟨⟨c0,c1,c2,c3,c4,c5,c6,c7⟩,hb⟩:=HVK.out.c8 hn
    obtain ⟨X,hX⟩:∃ X,l[hi]=X:=⟨_,rfl⟩
    rw [hX] at c0 c1 c2 c3 c4 c5 c6 c7
    have HX:=Lh hX
    have HC:=Lh (fun W=>place1_any X id W)
    clear hX hb
    by_cases hx:X.m.id=id
    ·have HR:=Lh (show kHas Le.id l id=true from kAt_eq (by rw [HK.out];exact hn) (by simp only [HK.out];rw [HX.out];exact hx))
     rw [ciF_eq hx] at HC
     clear hx
     go_wp2_with fail
     refine (HC.out _).mono ?_
     rintro e w1 ⟨rfl,hb1⟩
     have HB1:=Lh (HB.out.trans (hb1.mono HB.out.size))
     clear hb1 c0 c1 c2 c3 c4 c5 c6 c7
     go_wp2
     go_ret2
     exact ⟨by rw [HK.out,HR.out];rfl,HB1.out⟩
    ·have HR:=Lh (show kHas Le.id l id=false from kAt_ne HA.out (fun hl=>by simp only [HK.out];rw [HX.out];exact hx))
     have hci:(ciF X.m.id id==0)=false:=ciF_ne hx
     clear hx
     generalize ciF X.m.id id=y at*
     go_wp2_with fail
     refine (HC.out _).mono ?_
     rintro e w1 ⟨rfl,hb1⟩
     have HB1:=Lh (HB.out.trans (hb1.mono HB.out.size))
     clear hb1 c0 c1 c2 c3 c4 c5 c6 c7
     go_wp2
     go_ret2
     exact ⟨by rw [HK.out,HR.out];rfl,HB1.out⟩
   ·have HR:=Lh (show kHas Le.id l id=false from kAt_ne HA.out (fun hl=>absurd hl (by rw [HK.out];exact hn)))
    go_wp2
    go_ret2
    exact ⟨by rw [HK.out,HR.out];rfl,HB.out⟩
theorem lplace_any (A:Option Addr) (n c:Nat) (l:List Le) (id:Int) (w:World) (hv:El w w.heap.size (.slice A n c) l) (ha:Asc Le.id l) (h12:n≤1000) :
  Calls Tryz.prog 125 #[.slice A n c,.int .i64 id] w (PlR l id w):=by
 have HC:=Lh (bsearch_any A n c l id w hv ha h12)
 clear hv ha
 generalize kAt Le.id l id=i at*
 go_enter Tryz.func125,Tryz.ntmps125
 go_wp2_with fail
 refine HC.out.mono ?_
 rintro e w1 ⟨rfl,hb⟩
 have HB:=Lh hb
 clear hb
 go_wp2
 go_ret2
 exact ⟨rfl,HB.out⟩
end Go.Proofs.YtdobenkkkkaipaaGreat
