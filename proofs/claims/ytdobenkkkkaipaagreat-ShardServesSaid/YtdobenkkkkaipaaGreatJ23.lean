/- What is proved here: lease.Find by a contract; the reference's Purged of message, by one contract for all arguments; Purged, Spent, Receivable, Deliver, Revive, Reroute of message and their references, each by one contract for all arguments; shard.Holds by a contract. -/
import Derived.Test.YtdobenkkkkaipaaGreatJ22
namespace Go.Proofs.YtdobenkkkkaipaaGreat
open Go.RowKit
set_option linter.unusedVariables false
theorem fn_has {l:List Le} {h:List Du} {id:Int} (t:TbOk l h) (e:kHas Le.id l id=true):∃ hk:kAt Le.id l id<l.length,fnO l h id=true∧fnX l h id=l[kAt Le.id l id]:=by
 obtain ⟨e1,e2⟩:=kAt_fi t.asc (kHas_iff.1 e)
 exact ⟨e2,fn_yes ((tbV_iff l h).2 t) e2 e1⟩
set_option maxHeartbeats 8000000 in
set_option maxRecDepth 20000 in
theorem lfind_any (A:Option Addr) (n c:Nat) (l:List Le) (A2:Option Addr) (n2 c2:Nat) (h:List Du) (id:Int) (w:World) (hv:El w w.heap.size (.slice A n c) l) (hd:Dl w w.heap.size (.slice A2 n2 c2) h) :
  Calls Tryz.prog 71 #[tv A n c A2 n2 c2,.int .i64 id] w fun e w'=>e=.returned (.tuple #[(fnX l h id).v,.bool (fnO l h id)])∧Below w.heap.size w w':=by
 obtain ⟨rfl,hm1,hm2⟩:=hv.len
 obtain ⟨rfl,hm3,hm4⟩:=hd.len
 have H0:=Lh ((VaA.start 31 hv hd).alloc (.cells #[.int .i64 0,.int .i64 0,.int .i64 0,.int .i64 0,.int .i64 0,.int .i64 0,.string ⟨#[]⟩,.int .i64 0] 56))
 have HR0:=Lh (RL.start (w.alloc (.cells #[.slice A l.length c,.slice A2 h.length c2] 31)) zL 56)
 clear hv hd hm1 hm2 hm3 hm4
 obtain ⟨O,hO⟩:∃ O,O=fnO l h id:=⟨_,rfl⟩
 obtain ⟨X,hX⟩:∃ X,X=fnX l h id:=⟨_,rfl⟩
 obtain ⟨z,hz⟩:∃ z,z=tbV l h:=⟨_,rfl⟩
 have HV:=Lh (fun p W (k:VaA w p A c l A2 c2 h W)=>lvalid_any A l.length c l A2 h.length c2 h W k.el k.dl)
 rw [←hz] at HV
 rw [←hO,←hX]
 have HO:=Lh hO
 have HX:=Lh hX
 have HZ:=Lh hz
 clear hO hX hz
 go_enter Tryz.func71,Tryz.ntmps71
 obtain ⟨t0,t1,tl⟩:=H0.out.tb
 go_wp2_with fail
 clear t0 t1 tl
 obtain ⟨p,hp⟩:∃ p,p=w.heap.size:=⟨_,rfl⟩
 obtain ⟨r,hr⟩:∃ r,r=w.heap.size+1:=⟨_,rfl⟩
 have HPR:=Lh (show ¬p=r∧w.heap.size≤r by omega)
 have e1:(w.alloc (.cells #[.slice A l.length c,.slice A2 h.length c2] 31)).heap.size=r:=by rw [hr];simp
 rw [e1] at HR0
 have HS:=Lh (show VaA w p A c l A2 c2 h ((w.alloc (.cells #[.slice A l.length c,.slice A2 h.length c2] 31)).alloc (.cells #[.int .i64 0,.int .i64 0,.int .i64 0,.int .i64 0,.int .i64 0,.int .i64 0,.string ⟨#[]⟩,.int .i64 0] 56))∧RL ((w.alloc (.cells #[.slice A l.length c,.slice A2 h.length c2] 31)).alloc (.cells #[.int .i64 0,.int .i64 0,.int .i64 0,.int .i64 0,.int .i64 0,.int .i64 0,.string ⟨#[]⟩,.int .i64 0] 56)) r zL from ⟨by rw [hp];exact H0.out,HR0.out⟩)
 rw [←hr,←hp]
 clear e1 H0 HR0 hp hr
 generalize ((w.alloc (.cells #[.slice A l.length c,.slice A2 h.length c2] 31)).alloc (.cells #[.int .i64 0,.int .i64 0,.int .i64 0,.int .i64 0,.int .i64 0,.int .i64 0,.string ⟨#[]⟩,.int .i64 0] 56))=w2 at*
 have hpr:¬p=r:=HPR.out.1
 have hrp:¬r=p:=fun e=>HPR.out.1 e.symm
 by_cases hz0:z=0
 ·rw [hz0] at HV
  have HT:=Lh ((tbV_iff l h).1 (HZ.out.symm.trans hz0))
  have HP:=Lh (fun p W (k:VaA w p A c l A2 c2 h W)=>lplace_any A l.length c l id W k.el HT.out.asc (by have:=HT.out.len;omega))
  have HFH:=Lh (fun e=>fn_has (id:=id) HT.out e)
  have HFN:=Lh (fun e=>fn_no (l:=l) (h:=h) (id:=id) e)
  have HKN:=Lh (fun e=>(kHas_not (key:=Le.id) (l:=l) (x:=id)).1 e)
  unfold PlR at HP
  obtain ⟨i,hi⟩:∃ i,i=kAt Le.id l id:=⟨_,rfl⟩
  rw [←hi] at HP
  have HI:=Lh hi
  clear hz0 hi
  refine (HV.out _ _ HS.out.1).mono ?_
  rintro e w3 ⟨rfl,hb⟩
  have HS3:=Lh (show VaA w p A c l A2 c2 h w3∧RL w3 r zL from ⟨HS.out.1.below hb,HS.out.2.below hb HS.out.2.lt⟩)
  clear hb
  obtain ⟨t0,t1,tl⟩:=HS3.out.1.tb
  go_wp2_with fail
  clear t0 t1 tl
  cases ho:kHas Le.id l id with
  | false=>
   rw [ho] at HP
   have HXO:=Lh (show X=zL∧O=false from ⟨HX.out.trans (HFN.out (fun hh=>by have:=HKN.out ho;omega)).2,HO.out.trans (HFN.out (fun hh=>by have:=HKN.out ho;omega)).1⟩)
   clear ho
   refine (HP.out _ _ HS3.out.1).mono ?_
   rintro e w4 ⟨rfl,hb⟩
   have HS4:=Lh (show VaA w p A c l A2 c2 h w4∧RL w4 r zL from ⟨HS3.out.1.below hb,HS3.out.2.below hb HS3.out.2.lt⟩)
   clear hb
   obtain ⟨r0,r1,r2,r3,r4,r5,r6,r7,g0,g1,g2,g3,g4,g5,g6,g7,rl⟩:=HS4.out.2
   go_wp2
   exact bodyPost_ret (v:=.tuple #[.agg #[.int .i64 0,.int .i64 0,.int .i64 0,.int .i64 0,.int .i64 0,.int .i64 0,.string ⟨#[]⟩,.int .i64 0],.bool false]) (by simp only [results,Tryz.results71];go_simp <;> rfl) rfl ⟨by rw [HXO.out.1,HXO.out.2];rfl,sets_below HPR.out.2 zL.l 0 _ HS4.out.1.bel⟩
  | true=>
   rw [ho] at HP
   obtain ⟨hk,e1,e2⟩:=HFH.out ho
   have hki:i<l.length:=by rw [HI.out];exact hk
   have hki' : (i:Int)<(l.length:Int):=by omega
   obtain ⟨Y,hY⟩:∃ Y,l[i]=Y:=⟨_,rfl⟩
   have HXO:=Lh (show X=Y∧O=true from ⟨(HX.out.trans e2).trans (by rw [←hY];simp only [HI.out]),HO.out.trans e1⟩)
   have HYK:=Lh hY
   clear ho e1 e2 hk hY
   refine (HP.out _ _ HS3.out.1).mono ?_
   rintro e w4 ⟨rfl,hb⟩
   have HS4:=Lh (show VaA w p A c l A2 c2 h w4∧RL w4 r zL from ⟨HS3.out.1.below hb,HS3.out.2.below hb HS3.out.2.lt⟩)
   clear hb
   obtain ⟨t0,t1,tl⟩:=HS4.out.1.tb
   obtain ⟨r0,r1,r2,r3,r4,r5,r6,r7,g0,g1,g2,g3,g4,g5,g6,g7,rl⟩:=HS4.out.2
   obtain ⟨b,o,rfl,hbl⟩:=HS4.out.1.el.some_ (by omega)
   obtain ⟨⟨c0,c1,c2',c3,c4,c5,c6,c7⟩,_⟩:=HS4.out.1.el.c8 hki
   rw [HYK.out] at c0 c1 c2' c3 c4 c5 c6 c7
   go_wp2
   exact bodyPost_ret (v:=.tuple #[Y.v,.bool true]) (by simp only [results,Tryz.results71];go_simp <;> rfl) rfl ⟨by rw [HXO.out.1,HXO.out.2],sets_below HPR.out.2 Y.l 0 _ HS4.out.1.bel⟩
 ·have hz' : (z != 0)=true:=by simpa using hz0
  have HXO:=Lh (show X=zL∧O=false from ⟨HX.out.trans (fn_no fun hh=>by have:=HZ.out;omega).2,HO.out.trans (fn_no fun hh=>by have:=HZ.out;omega).1⟩)
  clear hz0
  refine (HV.out _ _ HS.out.1).mono ?_
  rintro e w4 ⟨rfl,hb⟩
  have HS4:=Lh (show VaA w p A c l A2 c2 h w4∧RL w4 r zL from ⟨HS.out.1.below hb,HS.out.2.below hb HS.out.2.lt⟩)
  clear hb
  obtain ⟨r0,r1,r2,r3,r4,r5,r6,r7,g0,g1,g2,g3,g4,g5,g6,g7,rl⟩:=HS4.out.2
  go_wp2
  exact bodyPost_ret (v:=.tuple #[.agg #[.int .i64 0,.int .i64 0,.int .i64 0,.int .i64 0,.int .i64 0,.int .i64 0,.string ⟨#[]⟩,.int .i64 0],.bool false]) (by simp only [results,Tryz.results71];go_simp <;> rfl) rfl ⟨by rw [HXO.out.1,HXO.out.2];rfl,sets_below HPR.out.2 zL.l 0 _ HS4.out.1.bel⟩
theorem rpurged_any (M:Msg) (k:Int) (w:World):Calls Tryz.prog 58 #[M.v,.int .i64 k] w fun e w'=>e=.returned (.bool (puF M k))∧Below w.heap.size w w':=by
 have HB:=Lh ((Below.refl w.heap.size w).alloc (Nat.le_refl _) (.cells M.cs 44))
 by_cases h:M.ep<k
 ·have HF:=Lh (show puF M k=true from decide_eq_true h)
  go_enter Tryz.func58,Tryz.ntmps58
  go_wp2
  go_ret
  exact ⟨by rw [HF.out];rfl,HB.out⟩
 ·have HF:=Lh (show puF M k=false from decide_eq_false h)
  go_enter Tryz.func58,Tryz.ntmps58
  go_wp2
  go_ret
  exact ⟨by rw [HF.out];rfl,HB.out⟩
def spF (M:Msg) (l:Int):Bool:=decide (l≤M.ct)
def rvF (M:Msg) (e l:Int):Bool:=!puF M e&&(!spF M l&&decide (M.gn<65536))
theorem spent_any (M:Msg) (k:Int) (w:World):Calls Tryz.prog 52 #[M.v,.int .i64 k] w fun e w'=>e=.returned (.bool (spF M k))∧Below w.heap.size w w':=by
 have HB:=Lh ((Below.refl w.heap.size w).alloc (Nat.le_refl _) (.cells M.cs 44))
 by_cases h:k≤M.ct
 ·have HF:=Lh (show spF M k=true from decide_eq_true h)
  go_enter Tryz.func52,Tryz.ntmps52
  go_wp2
  go_ret
  exact ⟨by rw [HF.out];rfl,HB.out⟩
 ·have HF:=Lh (show spF M k=false from decide_eq_false h)
  go_enter Tryz.func52,Tryz.ntmps52
  go_wp2
  go_ret
  exact ⟨by rw [HF.out];rfl,HB.out⟩
set_option maxHeartbeats 1000000 in
theorem receivable_any (M:Msg) (k l:Int) (w:World):Calls Tryz.prog 83 #[M.v,.int .i64 k,.int .i64 l] w fun e w'=>e=.returned (.bool (rvF M k l))∧Below w.heap.size w w':=by
 have HB:=Lh ((Below.refl w.heap.size w).alloc (Nat.le_refl _) (.cells M.cs 44))
 have HP:=Lh (fun w=>purged_any M k w)
 have HS:=Lh (fun w=>spent_any M l w)
 cases hp:puF M k with
 | true=>
  have HF:=Lh (show rvF M k l=false by simp [rvF,hp])
  rw [hp] at HP
  clear hp
  go_enter Tryz.func83,Tryz.ntmps83
  go_wp2_with fail
  refine (HP.out _).mono ?_
  rintro e w1 ⟨rfl,hb⟩
  obtain ⟨hc1,hf1⟩:=bcell hb
  have HB1:=Lh (HB.out.trans (hb.mono HB.out.size))
  have hz1:=hb.size
  try simp at hz1
  clear hb
  go_wp2
  go_ret
  exact ⟨by rw [HF.out];rfl,HB1.out⟩
 | false=>
  rw [hp] at HP
  cases hs:spF M l with
  | true=>
   have HF:=Lh (show rvF M k l=false by simp [rvF,hp,hs])
   rw [hs] at HS
   clear hp hs
   go_enter Tryz.func83,Tryz.ntmps83
   go_wp2_with fail
   refine (HP.out _).mono ?_
   rintro e w1 ⟨rfl,hb⟩
   obtain ⟨hc1,hf1⟩:=bcell hb
   have HB1:=Lh (HB.out.trans (hb.mono HB.out.size))
   have hz1:=hb.size
   try simp at hz1
   clear hb
   go_wp2_with fail
   refine (HS.out _).mono ?_
   rintro e w2 ⟨rfl,hb⟩
   obtain ⟨hc2,hf2⟩:=bcell hb
   have HB2:=Lh (HB1.out.trans (hb.mono HB1.out.size))
   have hz2:=hb.size
   try simp at hz2
   clear hb
   go_wp2
   go_ret
   exact ⟨by rw [HF.out];rfl,HB2.out⟩
  | false=>
   rw [hs] at HS
   by_cases hg:M.gn<65536
   ·have HF:=Lh (show rvF M k l=true by simp [rvF,hp,hs,hg])
    clear hp hs
    go_enter Tryz.func83,Tryz.ntmps83
    go_wp2_with fail
    refine (HP.out _).mono ?_
    rintro e w1 ⟨rfl,hb⟩
    obtain ⟨hc1,hf1⟩:=bcell hb
    have HB1:=Lh (HB.out.trans (hb.mono HB.out.size))
    have hz1:=hb.size
    try simp at hz1
    clear hb
    go_wp2_with fail
    refine (HS.out _).mono ?_
    rintro e w2 ⟨rfl,hb⟩
    obtain ⟨hc2,hf2⟩:=bcell hb
    have HB2:=Lh (HB1.out.trans (hb.mono HB1.out.size))
    have hz2:=hb.size
    try simp at hz2
    clear hb
    have hlt:w.heap.size<w1.heap.size:=by omega
    go_wp2
    go_ret
    exact ⟨by rw [HF.out];rfl,HB2.out⟩
   ·have HF:=Lh (show rvF M k l=false by simp [rvF,hp,hs];omega)
    clear hp hs
    go_enter Tryz.func83,Tryz.ntmps83
    go_wp2_with fail
    refine (HP.out _).mono ?_
    rintro e w1 ⟨rfl,hb⟩
    obtain ⟨hc1,hf1⟩:=bcell hb
    have HB1:=Lh (HB.out.trans (hb.mono HB.out.size))
    have hz1:=hb.size
    try simp at hz1
    clear hb
    go_wp2_with fail
    refine (HS.out _).mono ?_
    rintro e w2 ⟨rfl,hb⟩
    obtain ⟨hc2,hf2⟩:=bcell hb
    have HB2:=Lh (HB1.out.trans (hb.mono HB1.out.size))
    have hz2:=hb.size
    try simp at hz2
    clear hb
    have hlt:w.heap.size<w1.heap.size:=by omega
    go_wp2
    go_ret
    exact ⟨by rw [HF.out,←decide_eq_false (show ¬M.gn<65536 by omega)];rfl,HB2.out⟩
theorem rspent_any (M:Msg) (k:Int) (w:World):Calls Tryz.prog 59 #[M.v,.int .i64 k] w fun e w'=>e=.returned (.bool (spF M k))∧Below w.heap.size w w':=by
 have HB:=Lh ((Below.refl w.heap.size w).alloc (Nat.le_refl _) (.cells M.cs 44))
 by_cases h:k≤M.ct
 ·have HF:=Lh (show spF M k=true from decide_eq_true h)
  go_enter Tryz.func59,Tryz.ntmps59
  go_wp2
  go_ret
  exact ⟨by rw [HF.out];rfl,HB.out⟩
 ·have HF:=Lh (show spF M k=false from decide_eq_false h)
  go_enter Tryz.func59,Tryz.ntmps59
  go_wp2
  go_ret
  exact ⟨by rw [HF.out];rfl,HB.out⟩
set_option maxHeartbeats 1000000 in
theorem rreceivable_any (M:Msg) (k l:Int) (w:World):Calls Tryz.prog 87 #[M.v,.int .i64 k,.int .i64 l] w fun e w'=>e=.returned (.bool (rvF M k l))∧Below w.heap.size w w':=by
 have HB:=Lh ((Below.refl w.heap.size w).alloc (Nat.le_refl _) (.cells M.cs 44))
 have HP:=Lh (fun w=>rpurged_any M k w)
 have HS:=Lh (fun w=>rspent_any M l w)
 cases hp:puF M k with
 | true=>
  have HF:=Lh (show rvF M k l=false by simp [rvF,hp])
  rw [hp] at HP
  clear hp
  go_enter Tryz.func87,Tryz.ntmps87
  go_wp2_with fail
  refine (HP.out _).mono ?_
  rintro e w1 ⟨rfl,hb⟩
  obtain ⟨hc1,hf1⟩:=bcell hb
  have HB1:=Lh (HB.out.trans (hb.mono HB.out.size))
  have hz1:=hb.size
  try simp at hz1
  clear hb
  go_wp2
  go_ret
  exact ⟨by rw [HF.out];rfl,HB1.out⟩
 | false=>
  rw [hp] at HP
  cases hs:spF M l with
  | true=>
   have HF:=Lh (show rvF M k l=false by simp [rvF,hp,hs])
   rw [hs] at HS
   clear hp hs
   go_enter Tryz.func87,Tryz.ntmps87
   go_wp2_with fail
   refine (HP.out _).mono ?_
   rintro e w1 ⟨rfl,hb⟩
   obtain ⟨hc1,hf1⟩:=bcell hb
   have HB1:=Lh (HB.out.trans (hb.mono HB.out.size))
   have hz1:=hb.size
   try simp at hz1
   clear hb
   go_wp2_with fail
   refine (HS.out _).mono ?_
   rintro e w2 ⟨rfl,hb⟩
   obtain ⟨hc2,hf2⟩:=bcell hb
   have HB2:=Lh (HB1.out.trans (hb.mono HB1.out.size))
   have hz2:=hb.size
   try simp at hz2
   clear hb
   go_wp2
   go_ret
   exact ⟨by rw [HF.out];rfl,HB2.out⟩
  | false=>
   rw [hs] at HS
   by_cases hg:M.gn<65536
   ·have HF:=Lh (show rvF M k l=true by simp [rvF,hp,hs,hg])
    clear hp hs
    go_enter Tryz.func87,Tryz.ntmps87
    go_wp2_with fail
    refine (HP.out _).mono ?_
    rintro e w1 ⟨rfl,hb⟩
    obtain ⟨hc1,hf1⟩:=bcell hb
    have HB1:=Lh (HB.out.trans (hb.mono HB.out.size))
    have hz1:=hb.size
    try simp at hz1
    clear hb
    go_wp2_with fail
    refine (HS.out _).mono ?_
    rintro e w2 ⟨rfl,hb⟩
    obtain ⟨hc2,hf2⟩:=bcell hb
    have HB2:=Lh (HB1.out.trans (hb.mono HB1.out.size))
    have hz2:=hb.size
    try simp at hz2
    clear hb
    have hlt:w.heap.size<w1.heap.size:=by omega
    go_wp2
    go_ret
    exact ⟨by rw [HF.out];rfl,HB2.out⟩
   ·have HF:=Lh (show rvF M k l=false by simp [rvF,hp,hs];omega)
    clear hp hs
    go_enter Tryz.func87,Tryz.ntmps87
    go_wp2_with fail
    refine (HP.out _).mono ?_
    rintro e w1 ⟨rfl,hb⟩
    obtain ⟨hc1,hf1⟩:=bcell hb
    have HB1:=Lh (HB.out.trans (hb.mono HB.out.size))
    have hz1:=hb.size
    try simp at hz1
    clear hb
    go_wp2_with fail
    refine (HS.out _).mono ?_
    rintro e w2 ⟨rfl,hb⟩
    obtain ⟨hc2,hf2⟩:=bcell hb
    have HB2:=Lh (HB1.out.trans (hb.mono HB1.out.size))
    have hz2:=hb.size
    try simp at hz2
    clear hb
    have hlt:w.heap.size<w1.heap.size:=by omega
    go_wp2
    go_ret
    exact ⟨by rw [HF.out,←decide_eq_false (show ¬M.gn<65536 by omega)];rfl,HB2.out⟩
structure Hn where
 id:Int
 gn:Int
 rt:Int
 ht:Int
abbrev Hn.v (H:Hn):Value:=.agg #[.int .i64 H.id,.int .i64 H.gn,.int .i64 H.rt,.int .i64 H.ht]
def hxF (X:Le) (H:Hn) (now ep:Int):Bool:=(X.m.gn==H.gn)&&((X.m.rt==H.rt)&&(!puF X.m ep&&decide (now<X.dl)))
noncomputable def hoF (S:Sh) (H:Hn) (now ep:Int):Bool:=decide (exS S (wi now 0 1073741824&&wi ep 0 65536)=0)&&(fnO S.l S.h H.id&&hxF (fnX S.l S.h H.id) H now ep)
def H4 (W:World) (q:Nat) (H:Hn):Prop:=W.cell? ⟨q,0,none⟩=some (.int .i64 H.id)∧W.cell? ⟨q,1,none⟩=some (.int .i64 H.gn)∧W.cell? ⟨q,2,none⟩=some (.int .i64 H.rt)∧W.cell? ⟨q,3,none⟩=some (.int .i64 H.ht)∧q<W.heap.size
theorem H4.up {W W' : World} {q:Nat} {H:Hn} (h:H4 W q H) (hb:Below W.heap.size W W'):H4 W' q H:=by
 obtain ⟨h0,h1,h2,h3,hl⟩:=h
 exact ⟨(hb.cell (p:=⟨q,0,none⟩) hl).trans h0,(hb.cell (p:=⟨q,1,none⟩) hl).trans h1,(hb.cell (p:=⟨q,2,none⟩) hl).trans h2,(hb.cell (p:=⟨q,3,none⟩) hl).trans h3,Nat.lt_of_lt_of_le hl hb.size⟩
theorem H4.start (w:World) (H:Hn) (t:TypeId):H4 (w.alloc (.cells #[.int .i64 H.id,.int .i64 H.gn,.int .i64 H.rt,.int .i64 H.ht] t)) w.heap.size H:=
 ⟨by simp [go_sem],by simp [go_sem],by simp [go_sem],by simp [go_sem],by simp⟩
theorem nl_two (w:World) (a b:Rn) (t:TypeId):Nl (w.alloc (.cells #[.int .i64 a.n,.int .i64 a.lo,.int .i64 a.hi,.int .i64 b.n,.int .i64 b.lo,.int .i64 b.hi] t)) (w.heap.size+1) (.slice (some ⟨w.heap.size,0,none⟩) 2 2) [a,b]:=by
 refine ⟨_,2,rfl,Nat.le_refl _,by unfold maxLen;omega,by simp [rcs,Rn.l],fun _=>⟨w.heap.size,0,rfl,Nat.lt_succ_self _,fun j u hu=>?_⟩⟩
 rw [Nat.zero_add,World.cell?_alloc_new]
 simpa [rcs,Rn.l] using hu
set_option maxHeartbeats 8000000 in
set_option maxRecDepth 20000 in
theorem sholds_any (S:Sh) (D:Sx) (H:Hn) (now ep:Int) (w:World) (hs:SR w w.heap.size S D) :
  Calls Tryz.prog 26 #[sv S D,H.v,.int .i64 now,.int .i64 ep] w fun e w'=>e=.returned (.bool (hoF S H now ep))∧Below w.heap.size w w':=by
 have H0:=Lh ((SAt.start 33 hs).alloc (.cells #[.int .i64 H.id,.int .i64 H.gn,.int .i64 H.rt,.int .i64 H.ht] 36))
 have Q0:=Lh (H4.start (w.alloc (.cells #[.bool S.lv,.int .i64 S.lo,.int .i64 S.hi,.slice D.A S.cs.length D.c,.int .i64 S.hd,.int .i64 S.sz,.slice D.A2 S.l.length D.c2,.slice D.A3 S.h.length D.c3] 33)) H 36)
 have HV:=Lh (fun A c p W (k:SAt w p S D W) (hn:Nl W W.heap.size (.slice A 2 c) [⟨now,0,1073741824⟩,⟨ep,0,65536⟩])=>sexam_any S D A 2 c [⟨now,0,1073741824⟩,⟨ep,0,65536⟩] W k.sr hn)
 have HE:([⟨now,0,1073741824⟩,⟨ep,0,65536⟩]:List Rn).all Rn.ok=(wi now 0 1073741824&&wi ep 0 65536):=by simp [Rn.ok]
 rw [HE] at HV
 clear HE
 have HT:=Lh (fun W=>atime_any now W)
 have HP:=Lh (fun W=>aepoch_any ep W)
 have HF:=Lh (fun p W (k:SAt w p S D W)=>lfind_any D.A2 S.l.length D.c2 S.l D.A3 S.h.length D.c3 S.h H.id W k.sr.el k.sr.dl)
 have HHO:Hid (hoF S H now ep=(decide (exS S (wi now 0 1073741824&&wi ep 0 65536)=0)&&(fnO S.l S.h H.id&&hxF (fnX S.l S.h H.id) H now ep))):=Lh rfl
 clear hs
 generalize exS S (wi now 0 1073741824&&wi ep 0 65536)=z at*
 generalize hoF S H now ep=a at*
 generalize fnX S.l S.h H.id=X at*
 generalize fnO S.l S.h H.id=O at*
 unfold hxF at HHO
 have HPU:=Lh (fun W=>purged_any X.m ep W)
 generalize puF X.m ep=pu at*
 go_enter Tryz.func26,Tryz.ntmps26
 obtain ⟨p,hp⟩:∃ p,p=w.heap.size:=⟨_,rfl⟩
 obtain ⟨q,hq⟩:∃ q,q=w.heap.size+1:=⟨_,rfl⟩
 have e1:(w.alloc (.cells #[.bool S.lv,.int .i64 S.lo,.int .i64 S.hi,.slice D.A S.cs.length D.c,.int .i64 S.hd,.int .i64 S.sz,.slice D.A2 S.l.length D.c2,.slice D.A3 S.h.length D.c3] 33)).heap.size=q:=by rw [hq];simp
 rw [e1] at Q0
 rw [←hp] at H0
 have HPQ:=Lh (show w.heap.size≤p∧p<q by omega)
 clear e1
 go_upto_region 1 with (fail)
 rw [←hq,←hp]
 clear hp hq
 generalize ((w.alloc (.cells #[.bool S.lv,.int .i64 S.lo,.int .i64 S.hi,.slice D.A S.cs.length D.c,.int .i64 S.hd,.int .i64 S.sz,.slice D.A2 S.l.length D.c2,.slice D.A3 S.h.length D.c3] 33)).alloc (.cells #[.int .i64 H.id,.int .i64 H.gn,.int .i64 H.rt,.int .i64 H.ht] 36))=w1 at*
 have HD:=Lh H0.out.drew
 have Q1:=Lh (Q0.out.up ((Below.refl _ _).drew))
 have HT0:=Lh (show K8 p S D w1.drew from HD.out.k8)
 go_region_held3 (fun W=>K8 p S D W)
  (first | with_reducible exact HT0.out | with_reducible exact HT1.out | with_reducible exact HT2.out | with_reducible exact HT3.out | with_reducible exact HT4.out)
  (first
  | (go_at_call 70;(with_reducible refine (HT.out _).mono ?_);rintro e w3 ⟨rfl,hb⟩;have HA1:=Lh (HD.out.below hb);have Q2:=Lh (Q1.out.up hb);have HT1:=Lh HA1.out.k8;clear hb)
  | (go_at_call 48;(with_reducible refine (HP.out _).mono ?_);rintro e w4 ⟨rfl,hb⟩;have HA2:=Lh (HA1.out.below hb);have Q3:=Lh (Q2.out.up hb);have HT2:=Lh HA2.out.k8;have HA3:=Lh (HA2.out.alloc (.cells #[.int .i64 now,.int .i64 0,.int .i64 1073741824,.int .i64 ep,.int .i64 0,.int .i64 65536] 81));have Q4:=Lh (Q3.out.up ((Below.refl _ _).alloc (Nat.le_refl _) (.cells #[.int .i64 now,.int .i64 0,.int .i64 1073741824,.int .i64 ep,.int .i64 0,.int .i64 65536] 81)));have HT3:=Lh HA3.out.k8;have HNL:=Lh (nl_two w4 ⟨now,0,1073741824⟩ ⟨ep,0,65536⟩ 81);clear hb)
  | (go_at_call 47;(with_reducible refine (HV.out _ _ _ _ HA3.out ?_).mono ?_);(have:=HNL.out;simpa using this);rintro e w5 ⟨rfl,hb⟩;have HA4:=Lh (HA3.out.below hb);have Q5:=Lh (Q4.out.up hb);have HT4:=Lh HA4.out.k8;clear hb))
 by_cases hz:z=0
 ·subst hz
  obtain ⟨t0,t1,t2,t3,t4,t5,t6,t7,tl⟩:=HA4.out.s8.facts
  obtain ⟨q0,q1,q2,q3,ql⟩:=Q5.out
  go_wp2_with fail
  clear t0 t1 t2 t3 t4 t5 t6 t7 tl q0 q1 q2 q3 ql
  refine (HF.out _ _ HA4.out).mono ?_
  rintro e w6 ⟨rfl,hb⟩
  have B6:=Lh (bal (btr HA4.out.bel hb) (.cells #[.int .i64 X.m.id,.int .i64 X.m.rt,.int .i64 X.m.ep,.int .i64 X.m.ct,.int .i64 X.m.gn,.int .i64 X.m.st,.string X.m.bd,.int .i64 X.dl] 56))
  obtain ⟨q0,q1,q2,q3,ql⟩:=Q5.out.up hb
  clear hb
  cases O with
  | false=>
   have HX:=Lh (show a=false by rw [HHO.out];simp)
   clear HHO
   go_wp2
   go_ret
   exact ⟨by rw [HX.out];rfl,B6.out⟩
  | true=>
   cases h1:(X.m.gn==H.gn) with
   | false=>
    have HX:=Lh (show a=false by rw [HHO.out,h1];simp)
    clear HHO
    go_wp2
    go_ret
    exact ⟨by rw [HX.out];rfl,B6.out⟩
   | true=>
    cases h2:(X.m.rt==H.rt) with
    | false=>
     have HX:=Lh (show a=false by rw [HHO.out,h2];simp)
     clear HHO
     go_wp2
     go_ret
     exact ⟨by rw [HX.out];rfl,B6.out⟩
    | true=>
     cases pu with
     | true=>
      have HX:=Lh (show a=false by rw [HHO.out];simp)
      clear HHO
      go_wp2_with fail
      refine (HPU.out _).mono ?_
      rintro e w7 ⟨rfl,hb⟩
      have B7:=Lh (btr B6.out hb)
      clear hb
      go_wp2
      go_ret
      exact ⟨by rw [HX.out];rfl,B7.out⟩
     | false=>
      have hz':=B6.out.size
      have HX:=Lh (show a=decide (now<X.dl) by rw [HHO.out,h1,h2];simp)
      clear HHO
      go_wp2_with fail
      refine (HPU.out _).mono ?_
      rintro e w7 ⟨rfl,hb⟩
      have B7:=Lh (btr B6.out hb)
      have c7:=(hb.cell (p:=⟨w6.heap.size,7,none⟩) (by simp)).trans (show _=some (.int .i64 X.dl) by simp [go_sem])
      clear hb
      go_wp2
      go_ret
      exact ⟨by rw [HX.out];rfl,B7.out⟩
 ·have hne:(z != 0)=true:=bne_iff_ne.2 hz
  have HX:=Lh (show a=false by rw [HHO.out,decide_eq_false hz];simp)
  clear hz HHO
  go_wp2
  go_ret
  exact ⟨by rw [HX.out];rfl,HA4.out.bel⟩
end Go.Proofs.YtdobenkkkkaipaaGreat
